import PyProof.Rows.All
import Wide.All
import OpenK.AllK
import Wide.FinOn
import HandS.ForMost
import HandS.IsInst
import HandS.Wide
import HandS.Walk
import HandS.Flow
import HandS.AnyAll
import HandS.EndTab
import HandS.Deep
import HandS.Style
import HandS.Conv
import HandS.DictTup
import HandS.SortInts
import KE.DataCmp
import KE.SortData
import KE.BitLaws
import KE.DataFind
import PyProof.ReprRoads
import PyProof.Rows.ReprOcc
import HandS.FStr
import HandS.StrMore
import HandS.Exc
import HandS.ExcInit
import HandS.ExcIs
import HandS.ExcField
import HandS.WordsExc
import HandS.ExcValue
import HandS.SetFor
import HandS.RevRange
import HandS.GenList
import HandS.DictComp
import PyProof.SumAny
import HandS.Star
import HandS.WideBits
import KE.KeyNested
import KE.KDictKeyed
import HandS.Strs
import HandS.CallLocal
import HandS.More
import HandS.RaiseFrom
import HandS.SuiteRaise
import HandS.TryOnly
import HandS.Small
import HandS.ExcInitHot
import KE.GoesRaise
import KE.KExcIs
import PySem.Challenge.RW_packwants_k38_texts_refused
set_option Elab.async false
set_option linter.all false
set_option maxRecDepth 100000
set_option maxHeartbeats 4000000
namespace Pk
open PySem PySem.Spec PyProof.Rows L2
def topS (i : Nat) : Stmt := PySem.Challenge.pw_packwants_k38_texts_refused.main.body.getD i (.Pass ⟨0, 0, 0, 0⟩)
/-! ### heaps and plain data -/
theorem same_upd {H : Hp} {p : Addr} {o : HO} (h : H p = none) : Same H (upd H p o) := fun b x e => by
  rw [upd_ne (ne_of_none e h)]
  exact e
/-- all but a is as it was -/
def SameBut (a : Addr) (H H' : Hp) : Prop := ∀ b o, b ≠ a → H b = some o → H' b = some o
theorem SameBut.of {a : Addr} {H H' : Hp} (h : Same H H') : SameBut a H H' := fun b o _ e => h b o e
theorem SameBut.refl (a : Addr) (H : Hp) : SameBut a H H := fun _ _ _ e => e
theorem SameBut.trans {a : Addr} {H H1 H2 : Hp} (h : SameBut a H H1) (k : SameBut a H1 H2) : SameBut a H H2 := fun b o n e => k b o n (h b o n e)
theorem SameBut.upd {a : Addr} {H : Hp} {o : HO} : SameBut a H (upd H a o) := fun b x n e => by
  rw [upd_ne n]
  exact e
theorem SameBut.new {a p : Addr} {H H' : Hp} {o : HO} (h : SameBut a H H') (hp : H p = none) : SameBut a H (L2.upd H' p o) := fun b x n e => by
  rw [upd_ne (ne_of_none e hp)]
  exact h b x n e
/-- what was not there at the start may change -/
theorem sm_new {p : Addr} {H H' : Hp} {o : HO} (h : Same H H') (hp : H p = none) : Same H (L2.upd H' p o) := fun b x e => by
  rw [upd_ne (ne_of_none e hp)]
  exact h b x e
theorem SameBut.free {a p : Addr} {H H' : Hp} (h : SameBut a H H') (n : H' p = none) (ha : H' a ≠ none) : H p = none := by
  cases q : H p with
  | none => rfl
  | some o =>
    by_cases e : p = a
    · subst e
      exact absurd n ha
    · rw [h p o e q] at n
      cases n
/-- a list of ints -/
abbrev LI (ns : List Int) : HO := .lst (ns.map V.int)
theorem dpAll_ints {K : PySem.W.Frag} {H : Hp} : ∀ ns : List Int, DpAll K H (ns.map V.int) (ns.map PyData.int)
  | [] => .nil
  | n :: r => .cons (.int n) (dpAll_ints r)
theorem dp_ints {K : PySem.W.Frag} {H : Hp} {a : Addr} {ns : List Int} (h : SqL K H a (ns.map V.int)) : Dp K H (.ref a) (.list (ns.map PyData.int)) := .lst h (dpAll_ints ns)
theorem lay_ints : ∀ ns : List Int, PyData.canLayAll0 (ns.map PyData.int) = true
  | [] => by simp [PyData.canLayAll0]
  | n :: r => by
    have ih := lay_ints r
    simp [PyData.canLayAll0, PyData.canLay0, ih]
theorem depth_ints : ∀ ns : List Int, PyData.depthAll (ns.map PyData.int) = 0
  | [] => by simp [PyData.depthAll]
  | n :: r => by
    have ih := depth_ints r
    simp [PyData.depthAll, PyData.depth, ih]
theorem shaped_ints (ns : List Int) : SeqAt.shaped (.list (ns.map PyData.int)) = true := by
  unfold SeqAt.shaped
  have h1 : PyData.canLay0 (.list (ns.map PyData.int)) = true := by
    simp only [PyData.canLay0]
    exact lay_ints ns
  have h2 : PyData.depth (.list (ns.map PyData.int)) ≤ 64 := by
    simp only [PyData.depth]
    rw [depth_ints]
    omega
  rw [h1, decide_eq_true h2]
  rfl
theorem eqvAll_ints : ∀ ns ms : List Int, PyData.eqvAll (ns.map PyData.int) (ms.map PyData.int) = decide (ns = ms)
  | [], [] => by simp [PyData.eqvAll]
  | [], _ :: _ => by simp [PyData.eqvAll]
  | _ :: _, [] => by simp [PyData.eqvAll]
  | n :: r, m :: q => by
    have ih := eqvAll_ints r q
    simp only [List.map_cons, PyData.eqvAll, PyData.eqv, ih]
    by_cases h1 : n = m <;> by_cases h2 : r = q <;> simp [h1, h2]
theorem eqv_ints (ns ms : List Int) : PyData.eqv (.list (ns.map PyData.int)) (.list (ms.map PyData.int)) = decide (ns = ms) := by
  simp only [PyData.eqv]
  exact eqvAll_ints ns ms
theorem li_app (ls : List Int) (n : Int) : HO.lst (ls.map V.int ++ [.int n]) = LI (ls ++ [n]) := by
  show _ = HO.lst ((ls ++ [n]).map V.int)
  rw [List.map_append]
  rfl
theorem li_set (ls : List Int) (j : Nat) (n : Int) : HO.lst ((ls.map V.int).set j (.int n)) = LI (ls.set j n) := by
  show _ = HO.lst ((ls.set j n).map V.int)
  rw [List.map_set]
theorem at_app {H : Hp} {a : Addr} {ls : List Int} {n : Int} : upd H a (.lst (ls.map V.int ++ [.int n])) a = some (LI (ls ++ [n])) := by rw [upd_same, li_app]
theorem at_set {H : Hp} {a : Addr} {ls : List Int} {j : Nat} {n : Int} : upd H a (.lst ((ls.map V.int).set j (.int n))) a = some (LI (ls.set j n)) := by rw [upd_same, li_set]
theorem szL {n : Nat} (h : n ≤ 100000) : n ≤ sizeLine := Nat.le_trans h (by decide)
theorem szL' {n : Nat} (h : n ≤ 100000) : n < sizeLine := Nat.lt_of_le_of_lt h (by decide)
theorem get_ints {ns : List Int} {i : Nat} {n : Int} (h : ns[i]? = some n) : (ns.map V.int)[i]? = some (.int n) := by
  rw [List.getElem?_map, h]
  rfl
theorem getD_ints {ns : List Int} {i : Nat} (h : i < ns.length) : (ns.map V.int)[i]? = some (.int ns[i]) := get_ints (List.getElem?_eq_getElem h)
theorem of_get_ints {ns : List Int} {i : Nat} {v : V} (h : (ns.map V.int)[i]? = some v) : ∃ n, ns[i]? = some n ∧ v = .int n := by
  rw [List.getElem?_map] at h
  cases e : ns[i]? with
  | none => rw [e] at h; cases h
  | some n => rw [e] at h; exact ⟨n, rfl, (Option.some.inj h).symm⟩
/-- i % n as a place -/
theorem mod_at {i : Int} {n : Nat} (h : 0 < n) : ∃ j : Nat, j < n ∧ i % (n : Int) = (j : Int) := by
  have h1 : 0 ≤ i % (n : Int) := Int.emod_nonneg i (by omega)
  have h2 : i % (n : Int) < (n : Int) := Int.emod_lt_of_pos i (by omega)
  exact ⟨(i % (n : Int)).toNat, by omega, by omega⟩
theorem ixN_nat {n j : Nat} (h : j < n) : ixN n (j : Int) = some j := by
  unfold ixN
  rw [if_pos (by omega), if_pos (by omega), Int.toNat_natCast]
theorem take_succ_at {α : Type} {l : List α} {i : Nat} {x : α} (h : l[i]? = some x) : l.take (i + 1) = l.take i ++ [x] := by
  rw [List.take_add_one, h]
  rfl
/-- a def of the top: where it stands -/
structure Def (K : PySem.W.Frag) (mg : Str → Option Value) (x : Str) (st : Stmt) (ps : List Str) (f : Addr) (fd : FuncData) : Prop where
  F : Fun K x x st f fd
  g : mg x = some (.ref f)
  b : Binds K fd ps []
/-! ### rules at a written K (for a comprehension's block) -/
section
variable {X : Cx} {K : PySem.W.Frag}
theorem ix_listK (h : X.K = K) : IxR X (rIxL K) := by subst h; exact ix_list
theorem ix_tupK (h : X.K = K) : IxR X (rIxT K) := by subst h; exact ix_tup
theorem call_len_seqK (h : X.K = K) : CallR X (.builtin "len") (fun xs H Q => ∃ p ys, xs = [.ref p] ∧ (SqL K H p ys ∨ SqT K H p ys) ∧ Q (.int ys.length) H) := by subst h; exact call_len_seq
theorem op_eqDK (h : X.K = K) (hu : X.A.units + 64 < cLine) : OpR X (compareOp .Eq) (rEqD K) := by subst h; exact op_eqD hu
theorem op_neDK (h : X.K = K) (hu : X.A.units + 64 < cLine) : OpR X (compareOp .NotEq) (rNeD K) := by subst h; exact op_neD hu
theorem cr_maxK (h : X.K = K) (hc : X.calm = true) : CallR X (.builtin "max") (rMax K) := by subst h; exact cr_max hc
theorem cr_sumK (h : X.K = K) (hc : X.calm = true) : CallR X (.builtin "sum") (rSum K) := by subst h; exact cr_sum hc
theorem call_list_ofK (h : X.K = K) : CallR X (.type "list") (fun xs H Q => ∃ p ys, xs = [.ref p] ∧ (SqL K H p ys ∨ SqT K H p ys) ∧ ∀ l, H l = none → Q (.ref l) (upd H l (.lst ys))) := by subst h; exact call_list_of
theorem pi_listK {tg l : Expr} {tl : TE} (h : X.K = K) (hl : PE X l tl) : PI X tg l (iList K tl) := by subst h; exact pi_list hl
theorem pi_tupK {tg l : Expr} {tl : TE} (h : X.K = K) (hl : PE X l tl) : PI X tg l (iTup K tl) := by subst h; exact pi_tup hl
theorem pg_tupK {es : List Expr} {k : Nat} {t : TGs} {n : Nat} {pos : Pos} (hK : X.K = K) (hc : X.calm = true) (h : PGs X es t)
    (hn : (assignEach es X.env).length = n := by rfl) (hst : (assignEach es X.env).findIdx? (·.1) = none := by rfl) : PG X (.Tuple es k pos) (gTup K n t) := by subst hK; exact pg_tup hc h hn hst
end
/-! ### a statement whose ends are joined by what holds behind it -/
def tCutI (t u : TS) : TS := fun D σ H => ∃ I : L2.St → Hp → Prop, t { D with nx := I } σ H ∧ ∀ σ' H', I σ' H' → u D σ' H'
theorem pss_cutI {X : Cx} {st : Stmt} {rest : List Stmt} {t u : TS} (h1 : PS X st t) (h2 : PSs X rest u) : PSs X (st :: rest) (tCutI t u) := by
  refine ⟨fun pins s σ H D I h => ?_⟩
  obtain ⟨J, h, hJ⟩ := h
  refine wpAny_execs_cons (thn (h1.run pins s σ H { D with nx := J } I h) fun f s1 q => ?_)
  cases f with
  | next =>
    obtain ⟨σ', H', I', q⟩ := q
    exact h2.run pins s1 σ' H' D I' (hJ σ' H' q)
  | ret v => exact q
  | brk => exact q
  | cont => exact q
/-- data: lists of lists of ints -/
abbrev dRows (rs : List (List Int)) : PyData := .list (rs.map fun r => .list (r.map PyData.int))
theorem lay_rows : ∀ rs : List (List Int), PyData.canLayAll0 (rs.map fun r => .list (r.map PyData.int)) = true
  | [] => by simp [PyData.canLayAll0]
  | r :: q => by
    have ih := lay_rows q
    have h1 := lay_ints r
    simp [PyData.canLayAll0, PyData.canLay0, ih, h1]
theorem depth_rows : ∀ rs : List (List Int), PyData.depthAll (rs.map fun r => .list (r.map PyData.int)) ≤ 1
  | [] => by simp [PyData.depthAll]
  | r :: q => by
    have ih := depth_rows q
    have h1 := depth_ints r
    simp only [List.map_cons, PyData.depthAll, PyData.depth]
    omega
theorem shaped_rows (rs : List (List Int)) : SeqAt.shaped (dRows rs) = true := by
  unfold SeqAt.shaped
  have h1 : PyData.canLay0 (dRows rs) = true := by
    simp only [PyData.canLay0]
    exact lay_rows rs
  have h2 : PyData.depth (dRows rs) ≤ 64 := by
    have := depth_rows rs
    simp only [PyData.depth]
    omega
  rw [h1, decide_eq_true h2]
  rfl
theorem eqv_self {d : PyData} (h : SeqAt.shaped d = true) : PyData.eqv d d = true := SeqAt.eqv_refl d (SeqAt.canLay_of_shaped h)
/-- the built-in names that the top leaves alone, and its constants -/
structure Names (mg : Str → Option Value) : Prop where
  len : mg "len" = none
  range : mg "range" = none
  max : mg "max" = none
  list : mg "list" = none
  isinstance : mg "isinstance" = none
  int : mg "int" = none
  bool : mg "bool" = none
  enumerate : mg "enumerate" = none
  all : mg "all" = none
  zip : mg "zip" = none
  reversed : mg "reversed" = none
  sum : mg "sum" = none
  sorted : mg "sorted" = none
  tuple : mg "tuple" = none
  any : mg "any" = none
  min : mg "min" = none
  str : mg "str" = none
  abs : mg "abs" = none
  set : mg "set" = none
  c_MOST_TIERS : ∃ t, mg "MOST_TIERS" = some (.int 4 t)
  c_FIGURES : ∃ t, mg "FIGURES" = some (.str "0123456789" t)
  c_MOST_LESSER : ∃ t, mg "MOST_LESSER" = some (.int 400 t)
  c_THING_FIGURES : ∃ t, mg "THING_FIGURES" = some (.int 1 t)
  c_PLACE_FIGURES : ∃ t, mg "PLACE_FIGURES" = some (.int 2 t)
  c_PRICE_FIGURES : ∃ t, mg "PRICE_FIGURES" = some (.int 12 t)
/-! ### generator expressions whose element is quiet: the def's code table may grow, all else stands -/
/-- what is no bare record is not the table -/
theorem tab_ne {X : Cx} {pins : List (Addr × Obj)} {σ : L2.St} {H1 : Hp} {s1 : Shared} {P : Addr} (I : Inv X pins σ H1 s1) (h : GxR.TabG H1 P) {b : Addr} {o : Obj} (e : s1.heap.get? b = some o) (c : o.cls ≠ .none ∨ ∀ vs, o.data ≠ .fields vs) : b ≠ P := by
  rintro rfl
  obtain ⟨ps, isTab, _⟩ := h
  have q : s1.heap.get? b = some { cls := .none, data := .fields ps } := I.hok b _ isTab
  cases q.symm.trans e
  exact c.elim (fun z => z rfl) (fun z => z _ rfl)
/-- from h2 to h3 the table at P has grown by some entries, and all else stands -/
structure Longer (P : Addr) (h2 h3 : Heap) (ps more : Array Value) : Prop where
  rest : Heap.ExtBut P h2 h3
  size : h2.objs.size ≤ h3.objs.size
  table : h3.get? P = some { cls := .none, data := .fields (ps ++ more) }
  good : TriplesOk (ps ++ more).toList
/-- the expression's own scope: the walked thing at «.0», its names, and captured ones that are cells of the def; for two names -/
structure GenS2 (sc scope : Scope) (xa xb : Str) : Prop where
  kind : scope.kind = .function
  co : scope.isCoroutine = false
  cell : ∀ y ∈ scope.names, y.2 ≠ .cell
  dot : scope.names.lookup (".0" : Str) = some NameKind.local
  la : scope.names.lookup xa = some .local
  lb : scope.names.lookup xb = some .local
  ne : xa ≠ xb
  free : ∀ y ∈ scope.names, y.2 = .free → sc.names.lookup y.1 = some .cell
/-- for one -/
structure GenS1 (sc scope : Scope) (x : Str) : Prop where
  kind : scope.kind = .function
  co : scope.isCoroutine = false
  cell : ∀ y ∈ scope.names, y.2 ≠ .cell
  dot : scope.names.lookup (".0" : Str) = some NameKind.local
  la : scope.names.lookup x = some .local
  free : ∀ y ∈ scope.names, y.2 = .free → sc.names.lookup y.1 = some .cell
/-- what is said of the thing that is walked: it was made in s1, and stands in t -/
structure Walkee (X : Cx) (pins : List (Addr × Obj)) (σ : L2.St) (H1 : Hp) (P : Addr) (fp wr : List Addr) (s1 t : Shared) : Prop where
  inv : Inv X pins σ H1 s1
  tab : GxR.TabG H1 P
  same : ∃ h n, t = { s1 with heap := h, toks := n }
  keep : ∀ b o, s1.heap.get? b = some o → t.heap.get? b = some o
  size : s1.heap.objs.size ≤ t.heap.objs.size
  low : ∀ b ∈ fp, b < t.heap.objs.size ∧ b ≠ P
  new : ∀ b ∈ wr, s1.heap.objs.size ≤ b
/-- the generator g, ready to be walked, in the state s5; F: what each turn hands out -/
def Walked (X : Cx) (pins : List (Addr × Obj)) (σ : L2.St) (H1 : Hp) (P : Addr) (n : Nat) (F : Nat → Value → Prop) (g : Addr) (s5 : Shared) : Prop :=
  ∃ (fp wr : List Addr) (G : Array GenState → Array GenState → Prop) (F' : Nat → Value → Prop) (St : Nat → Shared → Prop),
    WalksS X.prog X.w X.A.in1 g fp wr G n F' St ∧ St 0 s5 ∧ (∀ b ∈ fp, b < s5.heap.objs.size) ∧ (∀ i v, F' i v → F i v) ∧ ∀ s', Moved wr G s5 s' → ∃ H2, GxR.Tabbed P H1 H2 ∧ Inv X pins σ H2 s'
/-- what the element may lean on: the frame cenv, the depth, and a heap in which all that stood in s1 stands but for the table -/
structure Turned (X : Cx) (P : Addr) (sc : Scope) (s1 : Shared) (cenv : Env) (A' : Around) (u : Shared) : Prop where
  own : cenv.scope = sc
  cells : cenv.cells = cloFrom X.env.cells sc.names []
  glob : cenv.globals = mainGlobals
  blt : cenv.builtins = builtinsNs
  calm : A'.handled = none
  deep : A'.depth ≤ X.A.depth + 1
  units : A'.units ≤ X.A.units + 8
  still : ∀ b o, b ≠ P → s1.heap.get? b = some o → u.heap.get? b = some o
section
variable {X : Cx} {pins : List (Addr × Obj)} {σ : L2.St} {H1 : Hp} {s1 t : Shared} {c P : Addr} {fp wr : List Addr} {h2 h3 : Heap} {ps more : Array Value}
/-- the code of the expression is looked up, or laid: then the table is longer -/
theorem tab_opens {gpos : Pos} {q : Str} {scope : Scope} {t2 : Nat} {R : Value → Addr → Shared → Prop} (TB : GxR.TabB X.base X.mg c P) (code : X.env.code = .ref c) (I : Inv X pins σ H1 s1) (isTab : H1 P = some (.tbl ps)) (good : TriplesOk ps.toList)
    (keep : ∀ b o, s1.heap.get? b = some o → h2.get? b = some o) (h : ∀ cv h3 n more, Longer P h2 h3 ps more → R cv builtinsNs { s1 with heap := h3, toks := n }) :
    wpAny (model X.prog X.w) X.A (genexprCode X.env gpos q scope) (fun cv t => wpAny (model X.prog X.w) X.A (builtinsFor X.env.globals X.env.builtins) (fun bi u => R cv bi u) X.xe t) X.xe { s1 with heap := h2, toks := t2 } := by
  have table : h2.get? P = some { cls := .none, data := .fields ps } := keep P _ (I.hok P _ isTab)
  have head : PySem.W.CodeHd h2 c P := TB.code.keeps fun b o e => keep b o (I.bk b o e)
  have go : ∀ cv h3 n more, Longer P h2 h3 ps more → wpAny (model X.prog X.w) X.A (builtinsFor X.env.globals X.env.builtins) (fun bi u => R cv bi u) X.xe { s1 with heap := h3, toks := n } := by
    intro cv h3 n more L
    obtain ⟨at_, ob, given, away, _, notTab, inBase, cls, dict, plain⟩ := TB.bm
    have globals : h3.Ns X.env.globals X.mg := I.ok.glob ▸ ((I.mod.glob.keeps I.bk).keeps keep).extBut L.rest TB.gP
    exact wpAny_builtinsFor globals given away (L.rest _ _ notTab (keep _ _ (I.bk _ _ inBase))) cls dict plain (h cv h3 n more L)
  cases found : codeAmong gpos ps.toList
  · refine wpAny_genexprCodeX code (head.code table good) (head.tab table) found fun c' h' n rest below above isCode _ isTable _ => go _ h' n _ ⟨rest, Nat.le_trans below (Nat.le_of_lt above), isTable.2, ?_⟩
    obtain ⟨_, _, _, _, _, _, _, _, _, _, _, _, _, _, _, _, _, _, _, triples, _⟩ := isCode
    exact triples
  · refine wpAny_genexprCode_hit code (head.code table good) found (go _ h2 t2 #[] ⟨Heap.ExtBut.refl _ _, Nat.le_refl _, ?_, ?_⟩)
    · rw [Array.append_empty]
      exact table
    · rw [Array.append_empty]
      exact good
/-- when it has been walked: what was held is held, but for the longer table -/
theorem tab_closes {h5 : Heap} {n : Nat} {gs : GenState} {j : Nat} {wr' : List Addr} {s' : Shared} (I : Inv X pins σ H1 s1) (isTab : H1 P = some (.tbl ps)) (keep : ∀ b o, s1.heap.get? b = some o → h2.get? b = some o) (L : Longer P h2 h3 ps more)
    (bare : gs.bare = true) (on : ∀ b o, h3.get? b = some o → h5.get? b = some o) (new : ∀ b ∈ wr', s1.heap.objs.size ≤ b) (mv : Moved wr' (GenOnlyQ j) { s1 with heap := h5, gens := s1.gens.push gs, toks := n } s') : ∃ H2, GxR.Tabbed P H1 H2 ∧ Inv X pins σ H2 s' := by
  have old : ∀ {b o}, s1.heap.get? b = some o → b ∉ wr' := fun e z => Nat.lt_irrefl _ (Nat.lt_of_lt_of_le (Heap.lt_size e) (new _ z))
  have J := GxR.inv_tab (h' := s'.heap) (g' := s'.gens) (d' := s'.drawn) (t' := s'.toks) I isTab (fun b o far e => mv.heap b o (old e) (on b o (L.rest b o far (keep b o e)))) (mv.heap P _ (old (I.hok P _ isTab)) (on P _ L.table)) (AllBare.movedS (I.bare.push bare) mv)
  exact ⟨upd H1 P (.tbl (ps ++ more)), ⟨⟨_, upd_same, L.good⟩, fun _ far => upd_ne far⟩, (GxR.sh_eta s1 s' mv.os) ▸ J⟩
theorem Walkee.statics (K : Walkee X pins σ H1 P fp wr s1 t) : cStatics ≠ P ∧ cStatics ∉ wr := by
  obtain ⟨_, names, _⟩ := K.inv.nolimit
  constructor
  · rintro rfl
    obtain ⟨ps, isTab, _⟩ := K.tab
    obtain ⟨ob, _, _, there, isNs, _⟩ := names
    have q : s1.heap.get? cStatics = some { cls := .none, data := .fields ps } := K.inv.hok _ _ isTab
    cases q.symm.trans there
    cases isNs
  · exact fun z => Nat.lt_irrefl _ (Nat.lt_of_lt_of_le names.lt (K.new _ z))
/-- all that stood in s1 stands where an element is reckoned -/
theorem Walkee.turned {scope : Scope} {code : Value} {href : Heap} {A' : Around} {u : Shared} (K : Walkee X pins σ H1 P fp wr s1 t) (L : Longer P t.heap h3 ps more) (on : ∀ b o, h3.get? b = some o → href.get? b = some o) (calm : A'.handled = none) (deep : A'.depth ≤ X.A.depth + 1) (units : A'.units ≤ X.A.units + 8)
    (still : ∀ b ∈ List.range h3.objs.size, b ∉ wr → ∀ o, href.get? b = some o → u.heap.get? b = some o) : Turned X P scope s1 (genEnv scope (cloFrom X.env.cells scope.names []) h3.objs.size code builtinsNs X.env) A' u where
  own := rfl
  cells := rfl
  glob := K.inv.ok.glob
  blt := rfl
  calm := calm
  deep := deep
  units := units
  still := fun b o far e =>
    have e3 := L.rest b o far (K.keep b o e)
    still b (List.mem_range.mpr (Heap.lt_size e3)) (fun z => Nat.lt_irrefl _ (Nat.lt_of_lt_of_le (Heap.lt_size e) (K.new b z))) o (on b o e3)
/-- the made generator is ready -/
theorem Walkee.ready {n : Nat} {F : Nat → Value → Prop} {g : Addr} {h5 : Heap} {n3 n5 : Nat} {gs : GenState} {j : Nat} {wr' fp' : List Addr} {St : Nat → Shared → Prop} (K : Walkee X pins σ H1 P fp wr s1 t) (isTab : H1 P = some (.tbl ps)) (L : Longer P t.heap h3 ps more)
    (bare : gs.bare = true) (above : h3.objs.size < g) (size : h5.objs.size = g + 1) (on : ∀ b o, h3.get? b = some o → h5.get? b = some o) (hf : ∀ b ∈ fp', b = g ∨ b = h3.objs.size ∨ b < h3.objs.size) (hw : ∀ b ∈ wr', b = h3.objs.size ∨ b ∈ wr)
    (W : WalksS X.prog X.w X.A.in4 g fp' wr' (GenOnlyQ j) (passing (fun _ => true) n 0).length (fun j y => ∃ i, (passing (fun _ => true) n 0)[j]? = some i ∧ F i y) St) (st : St 0 { ({ s1 with heap := h3, toks := n3 } : Shared) with gens := s1.gens.push gs, toks := n5, heap := h5 }) :
    Walked X pins σ H1 P n F g { ({ s1 with heap := h3, toks := n3 } : Shared) with gens := s1.gens.push gs, toks := n5, heap := h5 } := by
  rw [GxR.passing_true, List.length_range] at W
  refine ⟨_, _, _, _, _, W.in4_1, st, fun b hb => ?_, fun j y hy => ?_, fun s' mv => tab_closes K.inv isTab K.keep L bare on (fun b hb => ?_) mv⟩
  · show b < h5.objs.size
    rw [size]
    rcases hf b hb with rfl | rfl | z
    · exact Nat.lt_succ_self _
    · exact Nat.lt_succ_of_lt above
    · exact Nat.lt_succ_of_lt (Nat.lt_trans z above)
  · obtain ⟨i, at_, q⟩ := hy
    obtain ⟨_, e⟩ := List.getElem?_eq_some_iff.mp at_
    rw [List.getElem_range] at e
    exact e ▸ q
  · rcases hw b hb with rfl | z
    · exact Nat.le_trans K.size L.size
    · exact K.new b z
end
section
variable {X : Cx} {pins : List (Addr × Obj)} {σ : L2.St} {H : Hp} {s : Shared} {c P : Addr} {k : Nat} {Q' : Value → Shared → Prop}
/-- (element for a, b in iter): what is walked hands out pairs; the element gives what F says -/
theorem gen_pairs {elt iter : Expr} {xa xb : Str} {pa pb pt gpos : Pos} {kt : Nat} {scope : Scope} (hr : Room k X.A) (TB : GxR.TabB X.base X.mg c P) (hcode : X.env.code = .ref c) (S : GenS2 X.env.scope scope xa xb) (hs : ∀ v, genFold iter X.env v = pure v) (I : Inv X pins σ H s)
    (h : wpAny (model X.prog X.w) X.A (eval iter X.env) (fun xv t => wpAny (model X.prog X.w) X.A (pyIter xv) (fun it t2 => ∃ (Iad : Addr) (fp wr : List Addr) (n : Nat) (Pt : Nat → Array Value → Prop) (St : Nat → Heap → Prop) (Mid : Nat → Addr → Heap → Prop) (F : Nat → Value → Prop) (q : List (Addr × Obj)) (σ1 : L2.St) (H1 : Hp) (s1 : Shared),
      it = .ref Iad ∧ Walkee X q σ1 H1 P fp wr s1 t2 ∧ (∀ A' : Around, A'.handled = none → WalksU X.prog X.w A' Iad fp wr n Pt St Mid) ∧ (∀ i vals, Pt i vals → ∃ va vb, vals = #[va, vb]) ∧ St 0 t2.heap ∧
      (∀ (cenv : Env) (A' : Around) (E' : Value → Shared → Prop) (i : Nat) (va vb : Value) (u : Shared) (m : Str → Option Value), Turned X P scope s1 cenv A' u → Pt i #[va, vb] → u.heap.Ns cenv.locals m → m xa = some va → m xb = some vb →
        wpAny (model X.prog X.w) A' (eval elt cenv) (fun y u' => F i y ∧ Keeps u u') E' u) ∧
      ∀ g s5, Walked X q σ1 H1 P n F g s5 → Q' (.ref g) s5) X.xe t) X.xe s) :
    wpAny (model X.prog X.w) X.A (eval (.GeneratorExp elt [⟨.Tuple [.Name xa pa, .Name xb pb] kt pt, iter, [], 0⟩] scope gpos) X.env) Q' X.xe s := by
  have room := hr.dp
  refine wpAny_GeneratorExp_walksQTD hr.hd S.co (closure_ok fun y hy e => I.ok.has y.1 (.inl (S.free y hy e))) S.cell S.dot S.la S.lb S.ne S.kind (by omega) (wpAny_mono h (fun xv t h => wpAny_mono h (fun it t2 h => ?_) fun _ _ e => e) fun _ _ e => e) hs
  obtain ⟨Iad, fp, wr, n, Pt, St, Mid, F, q, σ1, H1, s1, rfl, K, W, two, st, turn, out⟩ := h
  obtain ⟨ps, isTab, good⟩ := K.tab
  obtain ⟨h2, n2, rfl⟩ := K.same
  have lim : h2.NoLimit := K.inv.nolimit.keeps K.keep
  refine ⟨lim, tab_opens TB hcode K.inv isTab good K.keep fun cv h3 n3 more L => ⟨Iad, fp, wr, n, Pt, St, Mid, fun _ => true, F, rfl, W, two, (W X.A hr.hd).frame _ _ _ st fun b hb o e => L.rest b o (K.low b hb).2 e, fun b hb => Nat.lt_of_lt_of_le (K.low b hb).1 L.size, lim.extBut L.rest K.statics.1, K.statics.2, fun href on => ⟨?_, ?_⟩, ?_⟩⟩
  · intro A' E' i va vb u m _ _ _ _ _ _ _ _
    exact wpAny_pure ⟨rfl, GxR.keeps_refl _⟩
  · intro A' E' i va vb u m calm deep units at_ _ ns ma mb still
    exact turn _ A' E' i va vb u m (K.turned L on calm deep units still) at_ ns ma mb
  · intro g h5 n5 gs bare above size on W5 st5
    refine out g _ (K.ready isTab L bare above size on (fun b hb => ?_) (fun b hb => List.mem_cons.mp hb) W5 st5)
    exact (List.mem_cons.mp hb).imp_right fun z => (List.mem_cons.mp z).imp_right List.mem_range.mp
/-- (element for a in iter) -/
theorem gen_ones {elt iter : Expr} {x : Str} {px gpos : Pos} {scope : Scope} (hr : Room k X.A) (TB : GxR.TabB X.base X.mg c P) (hcode : X.env.code = .ref c) (S : GenS1 X.env.scope scope x) (hs : ∀ v, genFold iter X.env v = pure v) (I : Inv X pins σ H s)
    (h : wpAny (model X.prog X.w) X.A (eval iter X.env) (fun xv t => wpAny (model X.prog X.w) X.A (pyIter xv) (fun it t2 => ∃ (Iad : Addr) (fp wr : List Addr) (n : Nat) (Pt : Nat → Value → Prop) (St : Nat → Heap → Prop) (F : Nat → Value → Prop) (q : List (Addr × Obj)) (σ1 : L2.St) (H1 : Hp) (s1 : Shared),
      it = .ref Iad ∧ Walkee X q σ1 H1 P fp wr s1 t2 ∧ (∀ A' : Around, A'.handled = none → Walks X.prog X.w A' Iad fp wr n Pt St) ∧ St 0 t2.heap ∧
      (∀ (cenv : Env) (A' : Around) (E' : Value → Shared → Prop) (i : Nat) (va : Value) (u : Shared) (m : Str → Option Value), Turned X P scope s1 cenv A' u → Pt i va → u.heap.Ns cenv.locals m → m x = some va →
        wpAny (model X.prog X.w) A' (eval elt cenv) (fun y u' => F i y ∧ Keeps u u') E' u) ∧
      ∀ g s5, Walked X q σ1 H1 P n F g s5 → Q' (.ref g) s5) X.xe t) X.xe s) :
    wpAny (model X.prog X.w) X.A (eval (.GeneratorExp elt [⟨.Name x px, iter, [], 0⟩] scope gpos) X.env) Q' X.xe s := by
  have room := hr.dp
  refine wpAny_GeneratorExp_walksQD hr.hd S.co (closure_ok fun y hy e => I.ok.has y.1 (.inl (S.free y hy e))) S.cell S.dot S.la S.kind (by omega) (wpAny_mono h (fun xv t h => wpAny_mono h (fun it t2 h => ?_) fun _ _ e => e) fun _ _ e => e) hs
  obtain ⟨Iad, fp, wr, n, Pt, St, F, q, σ1, H1, s1, rfl, K, W, st, turn, out⟩ := h
  obtain ⟨ps, isTab, good⟩ := K.tab
  obtain ⟨h2, n2, rfl⟩ := K.same
  have lim : h2.NoLimit := K.inv.nolimit.keeps K.keep
  refine ⟨lim, tab_opens TB hcode K.inv isTab good K.keep fun cv h3 n3 more L => ⟨Iad, fp, wr, n, Pt, St, fun _ => true, F, rfl, W, (W X.A hr.hd).frame _ _ _ st fun b hb o e => L.rest b o (K.low b hb).2 e, fun b hb => Nat.lt_of_lt_of_le (K.low b hb).1 L.size, lim.extBut L.rest K.statics.1, K.statics.2, fun href on => ⟨?_, ?_⟩, ?_⟩⟩
  · intro A' E' i va u m _ _ _ _ _ _ _
    exact wpAny_pure ⟨rfl, GxR.keeps_refl _⟩
  · intro A' E' i va u m calm deep units at_ _ ns ma still
    exact turn _ A' E' i va u m (K.turned L on calm deep units still) at_ ns ma
  · intro g h5 n5 gs bare above size on W5 st5
    refine out g _ (K.ready isTab L bare above size on (fun b hb => ?_) (fun b hb => List.mem_cons.mp hb) W5 st5)
    exact (List.mem_cons.mp hb).imp_right fun z => (List.mem_cons.mp z).imp_right List.mem_range.mp
/-- a built-in function of a generator expression alone -/
theorem call_gen {b : Str} {f : String} {ge : Expr} {p pos : Pos} {R : Value → Shared → Prop} (hg : Gl X b) (hm : X.mg b = none) (hb : bootBuiltins b = some (.builtin f)) (he : starEach [ge] X.env = (false, eval ge X.env) :: starEach [] X.env) (I : Inv X pins σ H s)
    (h : wpAny (model X.prog X.w) X.A (eval ge X.env) (fun v t => wpAny (model X.prog X.w) X.A (call (.builtin f) [v]) R X.xe t) X.xe s) (hd : (b == ("__debug__" : Str)) = false := by decide) (hn : b ≠ "__name__" := by decide) :
    wpAny (model X.prog X.w) X.A (eval (.Call (.Name b p) [ge] [] pos) X.env) R X.xe s := by
  refine wpAny_Call_Name_kw (ld_blt I hg hm hb (PyProof.Rows.callWith_builtin1 ?_ he (by rfl)) hn hd)
  rw [he]
  exact Calls.spliced_cons (wpAny_mono h (fun v t h => Calls.spliced_nil h) fun _ _ e => e)
theorem truth_of {A : Around} {F' : Nat → Value → Prop} {pb : Nat → Bool} (h : ∀ i v, F' i v → v = .bool (pb i)) : TruthOf X.prog X.w A F' pb := by
  intro i v t Q E at_ q
  cases h i v at_
  exact wpAny_truthy_bool q
end
/-! ### all(test for a, b in enumerate(list)) -/
def tAllE (K : PySem.W.Frag) (P : Addr) (R : L2.St → Hp → List V → (Nat → Bool) → Prop) (te : TE) : TE := fun σ H Q => te σ H fun v H1 => ∃ (a : Addr) (xs : List V) (pb : Nat → Bool), v = .ref a ∧ SqL K H1 a xs ∧ GxR.TabG H1 P ∧ R σ H1 xs pb ∧
  ∀ H2, GxR.Tabbed P H1 H2 → Q (.bl ((List.range xs.length).all pb)) H2
/-- what the element is to do at one pair -/
def EltE (X : Cx) (P : Addr) (scope : Scope) (xa xb : Str) (elt : Expr) (R : L2.St → Hp → List V → (Nat → Bool) → Prop) : Prop :=
  ∀ (pins : List (Addr × Obj)) (σ : L2.St) (H1 : Hp) (s1 : Shared) (xs : List V) (pb : Nat → Bool), Inv X pins σ H1 s1 → GxR.TabG H1 P → R σ H1 xs pb →
    ∀ (cenv : Env) (A' : Around) (E' : Value → Shared → Prop) (i : Nat) (v : V) (va vb : Value) (s₂ : Shared) (m₂ : Str → Option Value), cenv.scope = scope → cenv.cells = cloFrom X.env.cells scope.names [] → cenv.globals = mainGlobals → cenv.builtins = builtinsNs →
      A'.handled = none → A'.depth ≤ X.A.depth + 1 → A'.units ≤ X.A.units + 8 → xs[i]? = some v → (∃ t, va = .int (i : Nat) t) → RelV v vb → s₂.heap.Ns cenv.locals m₂ → m₂ xa = some va → m₂ xb = some vb → (∀ b o, b ≠ P → s1.heap.get? b = some o → s₂.heap.get? b = some o) →
      wpAny (model X.prog X.w) A' (eval elt cenv) (fun y s₃ => y = .bool (pb i) ∧ Keeps s₂ s₃) E' s₂
section
variable {X : Cx}
theorem pe_allEnum {c P : Addr} {elt e : Expr} {xa xb : Str} {pa pb' pt p pos gpos epos ep : Pos} {kt : Nat} {scope : Scope} {te : TE} {k : Nat} {R : L2.St → Hp → List V → (Nat → Bool) → Prop}
    (hr : Room k X.A) (hg : Gl X "all") (hm : X.mg "all" = none) (hb : bootBuiltins "all" = some (.builtin "all")) (hge : Gl X "enumerate") (hme : X.mg "enumerate" = none) (TB : GxR.TabB X.base X.mg c P) (hcode : X.env.code = .ref c) (S : GenS2 X.env.scope scope xa xb) (hi : PE X e te)
    (hel : EltE X P scope xa xb elt R)
    (hs : ∀ v, genFold (.Call (.Name "enumerate" ep) [e] [] epos) X.env v = pure v := by intro _; rfl)
    (hs1 : starEach [e] X.env = [(false, eval e X.env)] := by rfl)
    (he : starEach [.GeneratorExp elt [⟨.Tuple [.Name xa pa, .Name xb pb'] kt pt, .Call (.Name "enumerate" ep) [e] [] epos, [], 0⟩] scope gpos] X.env = (false, eval (.GeneratorExp elt [⟨.Tuple [.Name xa pa, .Name xb pb'] kt pt, .Call (.Name "enumerate" ep) [e] [] epos, [], 0⟩] scope gpos) X.env) :: starEach [] X.env := by rfl) :
    PE X (.Call (.Name "all" p) [.GeneratorExp elt [⟨.Tuple [.Name xa pa, .Name xb pb'] kt pt, .Call (.Name "enumerate" ep) [e] [] epos, [], 0⟩] scope gpos] [] pos) (tAllE X.K P R te) := by
  refine ⟨fun pins s σ H Q I h => call_gen hg hm hb he I (gen_pairs hr TB hcode S hs I (Call_ (ld_blt I hge hme boot_enumerate (PyProof.Rows.callWith_type1 ?_ hs1 rfl))))⟩
  rw [hs1]
  refine Calls.spliced_cons (thn (hi.run pins s σ H _ I h) fun u0 s1 r => Calls.spliced_nil ?_)
  obtain ⟨_, H1, J, isRef, a, xs, pb, rfl, sq, tab, hR, q⟩ := r
  cases isRef
  obtain ⟨its, rv, at_, _⟩ := J.list sq
  refine call_enumerate_list at_.isList fun h' isEn isIt size keep => wpAny_pyIter_enum isEn ?_
  have la : a < s1.heap.objs.size := at_.lt
  have below : s1.heap.objs.size < h'.objs.size := isIt.elim fun _ x => Heap.lt_size x.1
  obtain ⟨oa, ea, ca, _⟩ := id at_.isList
  have aP : a ≠ P := tab_ne J tab ea (.inl fun z => by rw [ca] at z; cases z)
  have lP : P < s1.heap.objs.size := tab.elim fun _ x => Heap.lt_size (show s1.heap.get? P = _ from J.hok P _ x.1)
  have W := fun (A' : Around) (calm : A'.handled = none) => (WalksT.enumerate (prog := X.prog) (w := X.w) calm (s1.heap.objs.size + 1) s1.heap.objs.size a (Nat.succ_ne_self _) (Nat.ne_of_lt (Nat.lt_succ_of_lt la)) (Nat.ne_of_lt la) its.toArray).toU
  refine ⟨_, _, _, _, _, _, _, fun i y => y = .bool (pb i), pins, σ, H1, s1, rfl, ⟨J, tab, ⟨_, _, rfl⟩, keep, Nat.le_of_lt below, fun b hb => ?_, fun b hb => ?_⟩, W, fun i vals x => ?_, ⟨⟨_, isEn⟩, isIt, at_.isList.at fun o x => keep a o x⟩, ?_, ?_⟩
  · simp only [List.mem_cons, List.not_mem_nil, or_false] at hb
    rcases hb with rfl | rfl | rfl
    · exact ⟨Heap.lt_size isEn, Nat.ne_of_gt (Nat.lt_succ_of_lt lP)⟩
    · exact ⟨below, Nat.ne_of_gt lP⟩
    · exact ⟨Nat.lt_trans la below, aP⟩
  · simp only [List.mem_cons, List.not_mem_nil, or_false] at hb
    rcases hb with rfl | rfl
    · exact Nat.le_succ _
    · exact Nat.le_refl _
  · exact x.elim fun _ x => x.elim fun _ x => ⟨_, _, x.2⟩
  · intro cenv A' E' i va vb u m T at_ ns ma mb
    obtain ⟨t, x, hx, e'⟩ := at_
    obtain ⟨rfl, rfl⟩ : va = .int i t ∧ vb = x := by simpa using congrArg Array.toList e'
    have there : its[i]? = some vb := by simpa using hx
    obtain ⟨v, hv⟩ : ∃ v, xs[i]? = some v := ⟨_, List.getElem?_eq_getElem (rv.length.symm ▸ (List.getElem?_eq_some_iff.mp there).1)⟩
    obtain ⟨w, hw, rw_⟩ := rv.get hv
    cases there.symm.trans hw
    exact hel pins σ H1 s1 xs pb J tab hR cenv A' E' i v _ _ u m T.own T.cells T.glob T.blt T.calm T.deep T.units hv ⟨t, rfl⟩ rw_ ns ma mb T.still
  · rintro g s5 ⟨fp, wr, G, F', St, W, st, _, say, held⟩
    refine call_all_walkS (W.self 0 _ _ _ st ⟨g, fp, wr, G, _, F', St, pb, rfl, W, st, truth_of say, fun s' mv => ?_⟩)
    obtain ⟨H2, grown, J2⟩ := held s' mv
    refine ⟨.bl _, H2, J2, rfl, ?_⟩
    rw [List.size_toArray, ← rv.length]
    exact q H2 grown
end
/-! ### (element for a, b in zip(list, list)), both lists of ints -/
section
variable {X : Cx} {pins : List (Addr × Obj)} {σ : L2.St} {H : Hp} {s : Shared}
theorem gen_zip {c P : Addr} {elt e1 e2 : Expr} {xa xb : Str} {pa pb pt gpos epos ep : Pos} {kt k : Nat} {scope : Scope} {t1 t2 : TE} {C : List Int → List Int → Hp → Prop} {F : List Int → List Int → Nat → Value → Prop} {Q' : Value → Shared → Prop}
    (hr : Room k X.A) (hge : Gl X "zip") (hme : X.mg "zip" = none) (TB : GxR.TabB X.base X.mg c P) (hcode : X.env.code = .ref c) (S : GenS2 X.env.scope scope xa xb) (h1 : PE X e1 t1) (h2 : PE X e2 t2)
    (hs : ∀ v, genFold (.Call (.Name "zip" ep) [e1, e2] [] epos) X.env v = pure v) (hs1 : starEach [e1, e2] X.env = (false, eval e1 X.env) :: starEach [e2] X.env) (hs2 : starEach [e2] X.env = (false, eval e2 X.env) :: starEach [] X.env)
    (hpl : (backTo epos (starEach [e2] X.env)).any (·.1) = false) (hem : starEach [] X.env = []) (I : Inv X pins σ H s)
    (h : t1 σ H fun v H1 => t2 σ H1 fun u H2 => ∃ (a b : Addr) (ns ms : List Int), v = .ref a ∧ u = .ref b ∧ SqL X.K H2 a (ns.map V.int) ∧ SqL X.K H2 b (ms.map V.int) ∧ GxR.TabG H2 P ∧ C ns ms H2)
    (turn : ∀ ns ms H2, C ns ms H2 → ∀ (cenv : Env) (A' : Around) (E' : Value → Shared → Prop) (i : Nat) (u : Shared) (m : Str → Option Value) (li : i < ns.length) (lj : i < ms.length) (t t' : Tok), cenv.scope = scope → u.heap.Ns cenv.locals m → m xa = some (.int ns[i] t) → m xb = some (.int ms[i] t') →
      wpAny (model X.prog X.w) A' (eval elt cenv) (fun y u' => F ns ms i y ∧ Keeps u u') E' u)
    (out : ∀ ns ms H2 g s5, C ns ms H2 → Walked X pins σ H2 P (min ns.length ms.length) (F ns ms) g s5 → Q' (.ref g) s5) :
    wpAny (model X.prog X.w) X.A (eval (.GeneratorExp elt [⟨.Tuple [.Name xa pa, .Name xb pb] kt pt, .Call (.Name "zip" ep) [e1, e2] [] epos, [], 0⟩] scope gpos) X.env) Q' X.xe s := by
  refine gen_pairs hr TB hcode S hs I (Call_ (ld_blt I hge hme PyProof.Rows.boot_zip (PyProof.Rows.callWith_type1 ?_ hs1 hpl)))
  rw [hs1, hs2, hem]
  refine Calls.spliced_cons (thn (h1.run pins s σ H _ I h) fun u0 s0 r0 => ?_)
  obtain ⟨v0, H0, J0, isA, q0⟩ := r0
  refine Calls.spliced_cons (thn (h2.run pins s0 σ H0 _ J0 q0) fun u1 s1 r1 => Calls.spliced_nil ?_)
  obtain ⟨v1, H1, J, isB, a, b, ns, ms, rfl, rfl, sqa, sqb, tab, hC⟩ := r1
  cases isA
  cases isB
  obtain ⟨its, rv, atA, _⟩ := J.list sqa
  obtain ⟨jts, rw_, atB, _⟩ := J.list sqb
  have lenA : ns.length = its.length := List.length_map (f := V.int) ▸ rv.length
  have lenB : ms.length = jts.length := List.length_map (f := V.int) ▸ rw_.length
  obtain ⟨oa, ea, ca, _⟩ := id atA.isList
  obtain ⟨ob, eb, cb, _⟩ := id atB.isList
  have aP : a ≠ P := tab_ne J tab ea (.inl fun z => by rw [ca] at z; cases z)
  have bP : b ≠ P := tab_ne J tab eb (.inl fun z => by rw [cb] at z; cases z)
  have lP : P < s1.heap.objs.size := tab.elim fun _ x => Heap.lt_size (show s1.heap.get? P = _ from J.hok P _ x.1)
  refine call_zip_2 atA.isList atB.isList fun h' isZ isT isO itA itB size keep => wpAny_pyIter_zip isZ ?_
  have up : ∀ j, j < 5 → s1.heap.objs.size + j < h'.objs.size ∧ s1.heap.objs.size + j ≠ P := fun j lj => ⟨size ▸ Nat.add_lt_add_left lj _, Nat.ne_of_gt (Nat.lt_of_lt_of_le lP (Nat.le_add_right _ j))⟩
  have W := fun (A' : Around) (calm : A'.handled = none) => (WalksT.zip2 (prog := X.prog) (w := X.w) calm (s1.heap.objs.size + 4) (s1.heap.objs.size + 2) (s1.heap.objs.size + 3) s1.heap.objs.size (s1.heap.objs.size + 1) a b (PySem.W.ktu_apart s1.heap.objs.size a b atA.lt atB.lt) its.toArray jts.toArray).toU
  have grown : s1.heap.objs.size ≤ h'.objs.size := Nat.le_of_lt (up 0 (by decide)).1
  refine ⟨_, _, _, _, _, _, _, F ns ms, pins, σ, H1, s1, rfl, ⟨J, tab, ⟨_, _, rfl⟩, keep, grown, fun d hd => ?_, fun d hd => ?_⟩, W, fun i vals x => ?_, ⟨isZ, isT, ⟨_, _, isO⟩, itA, itB, atA.isList.at fun o x => keep a o x, atB.isList.at fun o x => keep b o x⟩, ?_, ?_⟩
  · simp only [List.mem_cons, List.not_mem_nil, or_false] at hd
    rcases hd with rfl | rfl | rfl | rfl | rfl | rfl | rfl
    · exact up 4 (by decide)
    · exact up 2 (by decide)
    · exact up 3 (by decide)
    · exact up 0 (by decide)
    · exact up 1 (by decide)
    · exact ⟨Nat.lt_of_lt_of_le atA.lt grown, aP⟩
    · exact ⟨Nat.lt_of_lt_of_le atB.lt grown, bP⟩
  · simp only [List.mem_cons, List.not_mem_nil, or_false] at hd
    rcases hd with rfl | rfl | rfl | rfl
    · exact Nat.le_add_right _ _
    · exact Nat.le_add_right _ _
    · exact Nat.le_refl _
    · exact Nat.le_add_right _ _
  · exact x.elim fun _ x => x.elim fun _ x => ⟨_, _, x.2.2⟩
  · intro cenv A' E' i va vb u m T at_ nsm ma mb
    obtain ⟨x, y, hx, hy, e'⟩ := at_
    obtain ⟨rfl, rfl⟩ : va = x ∧ vb = y := by simpa using congrArg Array.toList e'
    have inA : its[i]? = some va := by simpa using hx
    have inB : jts[i]? = some vb := by simpa using hy
    have li : i < ns.length := lenA ▸ (List.getElem?_eq_some_iff.mp inA).1
    have lj : i < ms.length := lenB ▸ (List.getElem?_eq_some_iff.mp inB).1
    obtain ⟨w, hw, t, rfl⟩ := rv.get (getD_ints li)
    obtain ⟨w', hw', t', rfl⟩ := rw_.get (getD_ints lj)
    cases inA.symm.trans hw
    cases inB.symm.trans hw'
    exact turn ns ms H1 hC cenv A' E' i u m li lj t t' T.own nsm ma mb
  · intro g s5 x
    rw [List.size_toArray, List.size_toArray, ← lenA, ← lenB] at x
    exact out ns ms H1 g s5 hC x
/-- both names of such an expression are read from its frame -/
theorem read_two {sc scope : Scope} {cenv : Env} {A' : Around} {E' : Value → Shared → Prop} {u : Shared} {m : Str → Option Value} {xa xb : Str} {va vb : Value} {p q : Pos} {M : Model} (S : GenS2 sc scope xa xb) (own : cenv.scope = scope) (ns : u.heap.Ns cenv.locals m) (ma : m xa = some va) (mb : m xb = some vb)
    (hda : (xa == ("__debug__" : Str)) = false) (hdb : (xb == ("__debug__" : Str)) = false) :
    (∀ {Q : Value → Shared → Prop}, Q va u → wpAny M A' (eval (.Name xa p) cenv) Q E' u) ∧ ∀ {Q : Value → Shared → Prop}, Q vb u → wpAny M A' (eval (.Name xb q) cenv) Q E' u := by
  subst own
  exact ⟨fun h => wpAny_Name (wpAny_loadName_local S.kind S.la ns ma h) hda, fun h => wpAny_Name (wpAny_loadName_local S.kind S.lb ns mb h) hdb⟩
theorem at_getD {ns : List Int} {i : Nat} (li : i < ns.length) : ns.getD i 0 = ns[i] := by
  rw [List.getD_eq_getElem?_getD, List.getElem?_eq_getElem li]
  rfl
end
/-! ### all(a < b for a, b in zip(list, list)) -/
def tAllZ (K : PySem.W.Frag) (P : Addr) (t1 t2 : TE) : TE := fun σ H Q => t1 σ H fun v H1 => t2 σ H1 fun u H2 => ∃ (a b : Addr) (ns ms : List Int), v = .ref a ∧ u = .ref b ∧ SqL K H2 a (ns.map V.int) ∧ SqL K H2 b (ms.map V.int) ∧ GxR.TabG H2 P ∧
  ∀ H3, GxR.Tabbed P H2 H3 → Q (.bl ((List.range (min ns.length ms.length)).all fun i => decide (ns.getD i 0 < ms.getD i 0))) H3
section
variable {X : Cx}
theorem pe_allZip {c P : Addr} {e1 e2 : Expr} {xa xb : Str} {pa pb' pt p pos gpos epos ep q1 q2 q3 : Pos} {kt : Nat} {scope : Scope} {t1 t2 : TE} {k : Nat}
    (hr : Room k X.A) (hg : Gl X "all") (hm : X.mg "all" = none) (hb : bootBuiltins "all" = some (.builtin "all")) (hge : Gl X "zip") (hme : X.mg "zip" = none) (TB : GxR.TabB X.base X.mg c P) (hcode : X.env.code = .ref c) (S : GenS2 X.env.scope scope xa xb) (h1 : PE X e1 t1) (h2 : PE X e2 t2)
    (hda : (xa == ("__debug__" : Str)) = false) (hdb : (xb == ("__debug__" : Str)) = false)
    (hs : ∀ v, genFold (.Call (.Name "zip" ep) [e1, e2] [] epos) X.env v = pure v := by intro _; rfl)
    (hs1 : starEach [e1, e2] X.env = (false, eval e1 X.env) :: starEach [e2] X.env := by rfl) (hs2 : starEach [e2] X.env = (false, eval e2 X.env) :: starEach [] X.env := by rfl) (hpl : (backTo epos (starEach [e2] X.env)).any (·.1) = false := by rfl)
    (he : starEach [.GeneratorExp (.Compare (.Name xa q1) [.Lt] [.Name xb q2] q3) [⟨.Tuple [.Name xa pa, .Name xb pb'] kt pt, .Call (.Name "zip" ep) [e1, e2] [] epos, [], 0⟩] scope gpos] X.env = (false, eval (.GeneratorExp (.Compare (.Name xa q1) [.Lt] [.Name xb q2] q3) [⟨.Tuple [.Name xa pa, .Name xb pb'] kt pt, .Call (.Name "zip" ep) [e1, e2] [] epos, [], 0⟩] scope gpos) X.env) :: starEach [] X.env := by rfl) :
    PE X (.Call (.Name "all" p) [.GeneratorExp (.Compare (.Name xa q1) [.Lt] [.Name xb q2] q3) [⟨.Tuple [.Name xa pa, .Name xb pb'] kt pt, .Call (.Name "zip" ep) [e1, e2] [] epos, [], 0⟩] scope gpos] [] pos) (tAllZ X.K P t1 t2) := by
  refine ⟨fun pins s σ H Q I h => call_gen hg hm hb he I (gen_zip (C := fun ns ms H2 => ∀ H3, GxR.Tabbed P H2 H3 → Q (.bl ((List.range (min ns.length ms.length)).all fun i => decide (ns.getD i 0 < ms.getD i 0))) H3) (F := fun ns ms i y => y = .bool (decide (ns.getD i 0 < ms.getD i 0)))
    hr hge hme TB hcode S h1 h2 hs hs1 hs2 hpl (by rfl) I h ?_ ?_)⟩
  · intro ns ms H2 _ cenv A' E' i u m li lj t t' own nsm ma mb
    have two := read_two (M := model X.prog X.w) (A' := A') (E' := E') (p := q1) (q := q2) S own nsm ma mb hda hdb
    refine wpAny_Compare1 (two.1 (two.2 (lt_int ⟨?_, GxR.keeps_refl _⟩))) (nomark _)
    rw [at_getD li, at_getD lj]
  · rintro ns ms H2 g s5 q ⟨fp, wr, G, F', St, W, st, _, say, held⟩
    refine call_all_walkS (W.self 0 _ _ _ st ⟨g, fp, wr, G, _, F', St, _, rfl, W, st, truth_of say, fun s' mv => ?_⟩)
    obtain ⟨H3, grown, J⟩ := held s' mv
    exact ⟨.bl _, H3, J, rfl, q H3 grown⟩
end
/-! ### all(test for x in text): a generator expression over signs -/
abbrev GenSB := GenS1
/-- all(x in y for x in e), e a text, y a text of slot i -/
def tAllIn (P : Addr) (i : Nat) (te : TE) : TE := fun σ H Q => te σ H fun v H1 => ∃ a z : Str, v = .str a ∧ σ[i]? = some (some (.str z)) ∧ GxR.TabG H1 P ∧
  ∀ H2, GxR.Tabbed P H1 H2 → Q (.bl (a.cps.toList.all fun c => decide (c ∈ z.cps.toList))) H2
section
variable {X : Cx}
theorem pe_allIn {c P : Addr} {e : Expr} {x y : Str} {i : Nat} {px p pos gpos q1 q2 q3 : Pos} {scope : Scope} {te : TE} {k : Nat}
    (hr : Room k X.A) (hg : Gl X "all") (hm : X.mg "all" = none) (hb : bootBuiltins "all" = some (.builtin "all")) (TB : GxR.TabB X.base X.mg c P) (hcode : X.env.code = .ref c) (S : GenSB X.env.scope scope x) (hi : PE X e te)
    (hN : X.N[i]? = some y) (hy1 : X.env.scope.names.lookup y = some .cell) (hy2 : scope.names.lookup y = some .free) (hcl : ∀ cc, X.env.cells.lookup y = some cc → (cloFrom X.env.cells scope.names []).lookup y = some cc)
    (hda : (x == ("__debug__" : Str)) = false) (hdb : (y == ("__debug__" : Str)) = false) (hdc : (y == ("__classdict__" : Str)) = false)
    (hs : ∀ v, genFold e X.env v = pure v := by intro _; rfl)
    (he : starEach [.GeneratorExp (.Compare (.Name x q1) [.In] [.Name y q2] q3) [⟨.Name x px, e, [], 0⟩] scope gpos] X.env = (false, eval (.GeneratorExp (.Compare (.Name x q1) [.In] [.Name y q2] q3) [⟨.Name x px, e, [], 0⟩] scope gpos) X.env) :: starEach [] X.env := by rfl) :
    PE X (.Call (.Name "all" p) [.GeneratorExp (.Compare (.Name x q1) [.In] [.Name y q2] q3) [⟨.Name x px, e, [], 0⟩] scope gpos] [] pos) (tAllIn P i te) := by
  refine ⟨fun pins s σ H Q I h => call_gen hg hm hb he I (gen_ones hr TB hcode S hs I (thn (hi.run pins s σ H _ I h) fun u0 s1 r => ?_))⟩
  obtain ⟨_, H1, J, isText, a, z, rfl, slot, tab, q⟩ := r
  obtain ⟨t, rfl⟩ := isText
  have lP : P < s1.heap.objs.size := tab.elim fun _ x => Heap.lt_size (show s1.heap.get? P = _ from J.hok P _ x.1)
  -- the captured text's cell
  obtain ⟨tz, cc, isCell, there⟩ : ∃ tz cc, X.env.cells.lookup y = some cc ∧ s1.heap.IsCell cc (some (.str z tz)) := by
    obtain ⟨_, _, seen⟩ := J.loc
    obtain ⟨u, ⟨tz, rfl⟩, plain | cell⟩ := seen i y _ hN slot (.inr (.inl hy1))
    · have no : X.env.scope.names.lookup y = some .local := plain.1
      rw [hy1] at no
      cases no
    · obtain ⟨_, cc, isCell, there⟩ := cell
      exact ⟨tz, cc, isCell, there⟩
  obtain ⟨oc, at_, isText⟩ := id there
  have cP : cc ≠ P := tab_ne J tab at_ (.inr fun vs z => by rw [isText] at z; cases z)
  refine wpAny_pyIter_str fun o St W st => ?_
  refine ⟨_, _, _, _, _, _, fun j v => v = .bool (GxR.trF (fun c => decide (c ∈ z.cps.toList)) a.cps.toList j), pins, σ, H1, s1, rfl, ⟨J, tab, ⟨_, s1.toks, rfl⟩, fun b u e => Heap.get?_push_of_some _ e, by rw [Heap.size_push]; exact Nat.le_succ _, fun b hb => ?_, fun b hb => ?_⟩, W, st, ?_, ?_⟩
  · rw [List.mem_singleton.mp hb, Heap.size_push]
    exact ⟨Nat.lt_succ_self _, Nat.ne_of_gt lP⟩
  · exact Nat.le_of_eq (List.mem_singleton.mp hb).symm
  · intro cenv A' E' j va u m T at2 ns ma
    obtain ⟨ch, tc, hch, rfl⟩ := at2
    have isSign : a.cps.toList[j]? = some ch := Array.getElem?_toList.trans hch
    have free := hcl cc isCell
    rw [← T.cells] at free
    have func : cenv.scope.kind = .function := T.own.symm ▸ S.kind
    have isLocal : cenv.kindOf x = some .local := (congrArg (fun sc : Scope => sc.names.lookup x) T.own).trans S.la
    have isFree : cenv.kindOf y = some .free := (congrArg (fun sc : Scope => sc.names.lookup y) T.own).trans hy2
    refine wpAny_Compare1 (wpAny_Name (wpAny_loadName_local func isLocal ns ma ?_) hda) rfl
    refine wpAny_Name (wpAny_loadName_free func isFree free ⟨oc, T.still _ _ cP at_, isText⟩ ?_ (hn := hdc)) hdb
    exact PyProof.Rows.in_str ⟨(congrArg Value.bool (PySem.StrLaws.found_one z ch)).trans (congrArg Value.bool (GxR.trF_some (pb := fun c => decide (c ∈ z.cps.toList)) isSign).symm), GxR.keeps_refl _⟩
  · rintro g s5 ⟨fp, wr, G, F', St, W, st, _, say, held⟩
    refine call_all_walkS (W.self 0 _ _ _ st ⟨g, fp, wr, G, _, F', St, _, rfl, W, st, truth_of say, fun s' mv => ?_⟩)
    obtain ⟨H2, grown, J2⟩ := held s' mv
    exact ⟨.bl _, H2, J2, rfl, (GxR.all_signs a _).symm ▸ q H2 grown⟩
end
/-! ### what stays where tables of code may grow -/
def Tb (T : List Addr) (H : Hp) : Prop := ∀ t ∈ T, GxR.TabG H t
structure Ext (T : List Addr) (H H' : Hp) : Prop where
  ext : ∀ b o, H b = some o → (∀ ps, o ≠ .tbl ps) → H' b = some o
  t0 : Tb T H
  t1 : Tb T H'
  free : ∀ b, H' b = none → H b = none
section
variable {T : List Addr} {H H1 H2 : Hp}
theorem Ext.refl (h : Tb T H) : Ext T H H := ⟨fun _ _ e _ => e, h, h, fun _ e => e⟩
theorem Ext.trans (a : Ext T H H1) (b : Ext T H1 H2) : Ext T H H2 := ⟨fun c o e n => b.ext c o (a.ext c o e n) n, a.t0, b.t1, fun c e => a.free c (b.free c e)⟩
theorem Ext.lst (a : Ext T H H1) {p : Addr} {xs : List V} (h : H p = some (.lst xs)) : H1 p = some (.lst xs) := a.ext _ _ h fun _ z => nomatch z
theorem Ext.tup (a : Ext T H H1) {p : Addr} {xs : List V} (h : H p = some (.tup xs)) : H1 p = some (.tup xs) := a.ext _ _ h fun _ z => nomatch z
theorem Ext.same (s : Same H H1) (h : Tb T H) : Ext T H H1 := ⟨fun b o e _ => s b o e, h, fun t ht => by
  obtain ⟨ps, h1, h2⟩ := h t ht
  exact ⟨ps, s _ _ h1, h2⟩, fun b e => s.free e⟩
theorem Ext.new (a : Ext T H H1) {p : Addr} {o : HO} (hp : H p = none) : Ext T H (upd H1 p o) := by
  refine ⟨fun b u e n => ?_, a.t0, fun t ht => ?_, fun b e => ?_⟩
  · rw [upd_ne (ne_of_none e hp)]
    exact a.ext b u e n
  · obtain ⟨ps, h1, h2⟩ := a.t1 t ht
    obtain ⟨qs, h3, _⟩ := a.t0 t ht
    exact ⟨ps, by rw [upd_ne (ne_of_none h3 hp)]; exact h1, h2⟩
  · by_cases z : b = p
    · subst z
      exact hp
    · rw [upd_ne z] at e
      exact a.free b e
theorem Ext.tabbed {t : Addr} (h : Tb T H) (x : GxR.Tabbed t H H1) (ht : t ∈ T) : Ext T H H1 := by
  refine ⟨fun b o e n => ?_, h, fun u hu => ?_, fun b e => ?_⟩
  · obtain ⟨ps, h1, _⟩ := h t ht
    rw [x.2 b (fun z => by rw [z, h1] at e; exact n ps (Option.some.inj e).symm)]
    exact e
  · by_cases z : u = t
    · rw [z]
      exact x.1
    · obtain ⟨ps, h1, h2⟩ := h u hu
      exact ⟨ps, by rw [x.2 u z]; exact h1, h2⟩
  · by_cases z : b = t
    · obtain ⟨ps, h1, _⟩ := x.1
      rw [z, h1] at e
      cases e
    · rw [x.2 b z] at e
      exact e
end
/-! ### shops -/
inductive Ofr where
  | pack (c : List Int) (p : Int)
  | many (c : List Int) (ts : List (Int × Int))
  | add (c : List Int) (p k : Int)
def Ofr.cont : Ofr → List Int
  | .pack c _ => c
  | .many c _ => c
  | .add c _ _ => c
def Ofr.word : Ofr → Str
  | .pack _ _ => "pack"
  | .many _ _ => "many"
  | .add _ _ _ => "add"
def TiersAt (H : Hp) (a : Addr) (ts : List (Int × Int)) : Prop := ∃ us : List Addr, H a = some (.lst (us.map V.ref)) ∧ us.length = ts.length ∧ ∀ (i : Nat) u (t : Int × Int), us[i]? = some u → ts[i]? = some t → H u = some (.tup [.int t.1, .int t.2])
def OfrAt (H : Hp) (a : Addr) : Ofr → Prop
  | .pack c p => ∃ b, H a = some (.tup [.str "pack", .ref b, .int p]) ∧ H b = some (LI c)
  | .many c ts => ∃ b t, H a = some (.tup [.str "many", .ref b, .ref t]) ∧ H b = some (LI c) ∧ TiersAt H t ts
  | .add c p k => ∃ b, H a = some (.tup [.str "add", .ref b, .int p, .int k]) ∧ H b = some (LI c)
def ShopAt (H : Hp) (a : Addr) (os : List Ofr) : Prop := ∃ vs : List Addr, H a = some (.lst (vs.map V.ref)) ∧ vs.length = os.length ∧ ∀ (i : Nat) v o, vs[i]? = some v → os[i]? = some o → OfrAt H v o
section
variable {T : List Addr} {H H1 : Hp} (e : Ext T H H1)
include e
theorem TiersAt.ext {a : Addr} {ts : List (Int × Int)} (h : TiersAt H a ts) : TiersAt H1 a ts := by
  obtain ⟨us, h1, h2, h3⟩ := h
  exact ⟨us, e.lst h1, h2, fun i u t a b => e.tup (h3 i u t a b)⟩
theorem OfrAt.ext {a : Addr} : ∀ {o : Ofr}, OfrAt H a o → OfrAt H1 a o
  | .pack c p, ⟨b, h1, h2⟩ => ⟨b, e.tup h1, e.lst h2⟩
  | .many c ts, ⟨b, t, h1, h2, h3⟩ => ⟨b, t, e.tup h1, e.lst h2, h3.ext e⟩
  | .add c p k, ⟨b, h1, h2⟩ => ⟨b, e.tup h1, e.lst h2⟩
theorem ShopAt.ext {a : Addr} {os : List Ofr} (h : ShopAt H a os) : ShopAt H1 a os := by
  obtain ⟨vs, h1, h2, h3⟩ := h
  exact ⟨vs, e.lst h1, h2, fun i v o a b => (h3 i v o a b).ext e⟩
end
/-- the offer's word and its content, whatever it is -/
theorem OfrAt.head {H : Hp} {a : Addr} : ∀ {o : Ofr}, OfrAt H a o → ∃ b r, H a = some (.tup (.str o.word :: .ref b :: r)) ∧ H b = some (LI o.cont)
  | .pack c p, ⟨b, h1, h2⟩ => ⟨b, _, h1, h2⟩
  | .many c ts, ⟨b, t, h1, h2, h3⟩ => ⟨b, _, h1, h2⟩
  | .add c p k, ⟨b, h1, h2⟩ => ⟨b, _, h1, h2⟩
theorem ShopAt.get {H : Hp} {a : Addr} {os : List Ofr} {vs : List Addr} (h : vs.length = os.length) {i : Nat} (hi : i < os.length) : ∃ v o, vs[i]? = some v ∧ os[i]? = some o ∧ (vs.map V.ref)[i]? = some (.ref v) := by
  refine ⟨vs[i]'(by omega), os[i], List.getElem?_eq_getElem (by omega), List.getElem?_eq_getElem hi, ?_⟩
  rw [List.getElem?_map, List.getElem?_eq_getElem (by omega)]
  rfl
structure GoodT (ts : List (Int × Int)) : Prop where
  pos : 1 ≤ ts.length
  few : ts.length ≤ 4
  one : ∀ t, ts[0]? = some t → t.1 = 1
  most : ∀ t ∈ ts, t.1 ≤ 12
  rise : ∀ (i : Nat) a b, ts[i]? = some a → ts[i + 1]? = some b → a.1 < b.1
def GoodO (os : List Ofr) (i : Nat) : Ofr → Prop
  | .pack _ _ => True
  | .many _ ts => GoodT ts
  | .add _ _ k => ∃ j : Nat, k = (j : Int) ∧ j < i ∧ ∃ c p, os[j]? = some (.pack c p)
def Good (os : List Ofr) : Prop := os.length ≤ 8 ∧ ∀ (i : Nat) o, os[i]? = some o → GoodO os i o
/-- F.ok with the code object told -/
theorem okc {P : Program} {w : World} {K : PySem.W.Frag} {mg : Str → Option Value} {base : Heap} {x qual : Str} {st : Stmt} {f c : Addr} {fd : FuncData} {N ps : List Str} {k : Nat} {sp : Sp} (F : Fun K x qual st f fd) (hc : fd.code = .ref c) (S : FnScope N ps (defScope st)) (len : ∀ vs H Q E, sp vs H Q E → vs.length = ps.length)
    (hbody : ∀ (cdv : Value) (A : Around) (outer : List Env) (s : Shared) (H : Hp) (vs : List V) (Q : VK) (E : XK), cdv = .ref c → Room k (A.deeper (envOfC qual (defScope st) s.heap.objs.size f cdv)) → sp vs H Q E →
      ∃ t, PSs (cxOf CX0 P w K mg base N qual (defScope st) f cdv A outer s H E).nox (defBody st) t ∧ t { nx := fun _ H' => Q .non H', rt := Q } (start N vs) H) : FnOk P w K mg base CX0 (k + 1) f fd ps sp := by
  obtain ⟨oc, od, kV, doc, pm, an, cdv, ct, osl, rfl, lk, hcd⟩ := F.ex
  refine fn_of lk hcd S len fun A outer s H vs Q E hr hsp => ?_
  obtain ⟨t, h, q⟩ := hbody cdv A outer s H vs Q E hc hr hsp
  exact ⟨t, h.nox, q⟩
/-- a list without its first -/
theorem cut1 (l : List V) : cutV l (some 1) none = l.drop 1 := by
  have a : HT.sIx l.length 0 (some ((1 : Nat) : Int)) = min 1 l.length := HT.sIx_nat _ _ _
  show (l.drop (HT.sIx l.length 0 (some ((1 : Nat) : Int)))).take (l.length - HT.sIx l.length 0 (some ((1 : Nat) : Int))) = l.drop 1
  rw [a]
  rcases Nat.eq_zero_or_pos l.length with z | z
  · rw [List.eq_nil_of_length_eq_zero z]
    rfl
  · rw [Nat.min_eq_left z]
    exact List.take_of_length_le (by rw [List.length_drop]; exact Nat.le_refl _)
/-! ### any(xs) of ints; tuple(xs) at a written K -/
theorem truth_ints {prog : Program} {w : World} {A : Around} {ns : List Int} {its : List Value} (rv : Vals (ns.map V.int) its) :
    TruthOf prog w A (fun i v => its.toArray[i]? = some v) (fun i => (ns.getD i 0) != 0) := by
  intro i v s Q E at_ q
  have inIts : its[i]? = some v := by simpa using at_
  have li : i < ns.length := List.length_map (f := V.int) ▸ rv.length.symm ▸ (List.getElem?_eq_some_iff.mp inIts).1
  obtain ⟨_, hu, t, rfl⟩ := rv.get (get_ints (List.getElem?_eq_getElem li))
  cases inIts.symm.trans hu
  have same : ns.getD i 0 = ns[i] := by
    rw [List.getD_eq_getElem?_getD, List.getElem?_eq_getElem li]
    rfl
  exact PySem.P.truthy_int (same ▸ q)
def anyI (ns : List Int) : Bool := ns.any (· != 0)
theorem anyI_range : ∀ ns : List Int, (List.range ns.length).any (fun i => (ns.getD i 0) != 0) = anyI ns
  | [] => rfl
  | b :: bs => by
    unfold anyI
    rw [List.length_cons, List.range_succ_eq_map, List.any_cons, List.any_map, List.any_cons]
    have ih := anyI_range bs
    unfold anyI at ih
    rw [← ih]
    rfl
def rAnyI (K : PySem.W.Frag) : List V → Hp → VK → Prop := fun vs H Q => ∃ (a : Addr) (ns : List Int), vs = [V.ref a] ∧ SqL K H a (ns.map V.int) ∧ Q (.bl (anyI ns)) H
theorem cr_anyI {X : Cx} (hc : X.calm = true) : CallR X (.builtin "any") (rAnyI X.K) := by
  rintro pins s σ H _ us Q I r ⟨a, ns, rfl, held, q⟩
  obtain ⟨its, rv, there, _⟩ := I.list held
  have many : its.length = ns.length := rv.length.symm.trans (List.length_map ..)
  cases Vals.ref1 r
  refine call_any_walk (iter_any there.isList ?_)
  rintro t rfl st apart
  refine ⟨_, _, _, _, _, _, _, rfl, Walks.list (A := X.A.in1) (I.ok.hd hc) _ a apart its.toArray, st, truth_ints rv, fun h' tk more => ⟨.bl _, H, I.kept fun b o e => more b o (fun z => ?_) (Heap.get?_push_of_some _ e), ?_, q⟩⟩
  · cases List.mem_singleton.mp z
    exact Nat.lt_irrefl _ (Heap.lt_size e)
  · exact congrArg Value.bool (by rw [← anyI_range, List.size_toArray, many])
theorem cr_anyIK {X : Cx} {K : PySem.W.Frag} (h : X.K = K) (hc : X.calm = true) : CallR X (.builtin "any") (rAnyI K) := by subst h; exact cr_anyI hc
theorem pe_tupleOfK {X : Cx} {K : PySem.W.Frag} {a : Expr} {ta : TE} {p pos : Pos} (h : X.K = K) (hg : Gl X "tuple") (hm : X.mg "tuple" = none) (ha : PE X a ta) (na : starEach [a] X.env = (false, eval a X.env) :: starEach [] X.env := by rfl) :
    PE X (.Call (.Name "tuple" p) [a] [] pos) (tThen ta (kTup K)) := by subst h; exact pe_tupleOf hg hm ha na
/-! ### texts of contents -/
/-- the text of a number -/
abbrev numS (n : Nat) : Str := Str.ofString (toString ((n : Nat) : Int))
theorem tl_numS (n : Nat) : TL.tl (numS n) = TL.numL n := TL.tl_num n
theorem numS_len (n : Nat) : (numS n).length = (TL.numL n).length := by rw [TL.len_tl, tl_numS]
theorem str_nil_app (x : Str) : Str.empty ++ x = x := TL.ext_tl (by rw [TL.tl_append]; rfl)
theorem str_len_app (x y : Str) : (x ++ y).length = x.length + y.length := by rw [TL.len_tl, TL.len_tl, TL.len_tl, TL.tl_append, List.length_append]
/-- «3 ham» -/
def partS (n : Nat) (x : Str) : Str := numS n ++ (" " : Str) ++ x
theorem tl_blank : TL.tl (" " : Str) = [32] := by decide +kernel
theorem tl_comma : TL.tl (", " : Str) = [44, 32] := by decide +kernel
theorem tl_part (n : Nat) (x : Str) : TL.tl (partS n x) = TL.numL n ++ 32 :: TL.tl x := by
  unfold partS
  rw [TL.tl_append, TL.tl_append, tl_numS, tl_blank, List.append_assoc]
  rfl
structure GoodN (xs : List Str) : Prop where
  few : xs.length ≤ 4
  nd : xs.Nodup
  small : ∀ x ∈ xs, ∀ c ∈ TL.tl x, 97 ≤ c ∧ c ≤ 122
  short : ∀ x ∈ xs, x.length ≤ 8
  some : ∀ x ∈ xs, 1 ≤ x.length
/-- the places of the things that are there -/
def idxs (cs : List Int) (m : Nat) : List Nat := (List.range m).filter fun i => decide (0 < cs.getD i 0)
theorem idxs_succ (cs : List Int) (m : Nat) : idxs cs (m + 1) = idxs cs m ++ if 0 < cs.getD m 0 then [m] else [] := by
  unfold idxs
  rw [List.range_succ, List.filter_append]
  by_cases h : 0 < cs.getD m 0
  · rw [if_pos h, List.filter_cons_of_pos (by rw [decide_eq_true h])]
    rfl
  · rw [if_neg h, List.filter_cons_of_neg (by rw [decide_eq_false h]; decide)]
    rfl
theorem idxs_mem {cs : List Int} {m i : Nat} : i ∈ idxs cs m ↔ i < m ∧ 0 < cs.getD i 0 := by
  unfold idxs
  rw [List.mem_filter, List.mem_range, decide_eq_true_eq]
theorem idxs_len (cs : List Int) (m : Nat) : (idxs cs m).length ≤ m := by
  have := List.length_filter_le (fun i => decide (0 < cs.getD i 0)) (List.range m)
  rw [List.length_range] at this
  exact this
theorem idxs_nodup (cs : List Int) (m : Nat) : (idxs cs m).Nodup := List.Nodup.sublist (List.filter_sublist) List.nodup_range
def partAt (xs : List Str) (cs : List Int) (i : Nat) : Str := partS (cs.getD i 0).toNat (xs.getD i Str.empty)
def partsM (xs : List Str) (cs : List Int) (m : Nat) : List Str := (idxs cs m).map (partAt xs cs)
theorem partsM_succ (xs : List Str) (cs : List Int) (m : Nat) : partsM xs cs (m + 1) = partsM xs cs m ++ if 0 < cs.getD m 0 then [partAt xs cs m] else [] := by
  unfold partsM
  rw [idxs_succ, List.map_append]
  by_cases h : 0 < cs.getD m 0
  · rw [if_pos h, if_pos h]
    rfl
  · rw [if_neg h, if_neg h]
    rfl
theorem partsM_len (xs : List Str) (cs : List Int) (m : Nat) : (partsM xs cs m).length ≤ m := by
  unfold partsM
  rw [List.length_map]
  exact idxs_len cs m
def showM (xs : List Str) (cs : List Int) : Str := if partsM xs cs xs.length = [] then ("nothing" : Str) else Str.join (", " : Str) (partsM xs cs xs.length)
/-- contents as wanted: as many as names, numbers to nine -/
structure FitC (xs : List Str) (cs : List Int) : Prop where
  len : cs.length = xs.length
  small : ∀ c ∈ cs, 0 ≤ c ∧ c ≤ 9
theorem FitC.at {xs : List Str} {cs : List Int} (h : FitC xs cs) {i : Nat} (hi : i < xs.length) : cs[i]? = some (cs.getD i 0) ∧ 0 ≤ cs.getD i 0 ∧ cs.getD i 0 ≤ 9 := by
  have hl : i < cs.length := by rw [h.len]; exact hi
  have e : cs.getD i 0 = cs[i] := by rw [List.getD_eq_getElem?_getD, List.getElem?_eq_getElem hl]; rfl
  have := h.small cs[i] (List.getElem_mem hl)
  exact ⟨by rw [e]; exact List.getElem?_eq_getElem hl, by omega, by omega⟩
theorem name_at {xs : List Str} {i : Nat} (hi : i < xs.length) : xs[i]? = some (xs.getD i Str.empty) ∧ xs.getD i Str.empty ∈ xs := by
  have e : xs.getD i Str.empty = xs[i] := by rw [List.getD_eq_getElem?_getD, List.getElem?_eq_getElem hi]; rfl
  rw [e]
  exact ⟨List.getElem?_eq_getElem hi, List.getElem_mem hi⟩
theorem partAt_len {xs : List Str} {cs : List Int} (g : GoodN xs) (h : FitC xs cs) {i : Nat} (hi : i < xs.length) : (partAt xs cs i).length ≤ 10 := by
  obtain ⟨_, h1, h2⟩ := h.at hi
  obtain ⟨_, m⟩ := name_at hi
  have s := g.short _ m
  have e : (TL.numL (cs.getD i 0).toNat).length ≤ 1 := TL.numL_len (by decide) (by omega)
  have b : (" " : Str).length = 1 := by decide +kernel
  unfold partAt partS
  rw [str_len_app, str_len_app, numS_len, b]
  omega
theorem partAt_comma {xs : List Str} {cs : List Int} (g : GoodN xs) {i : Nat} (hi : i < xs.length) : 44 ∉ TL.tl (partAt xs cs i) := fun z => by
  unfold partAt at z
  rw [tl_part] at z
  rcases List.mem_append.mp z with z | z
  · exact TL.numL_free (by decide) z
  · rcases List.mem_cons.mp z with z | z
    · omega
    · have := g.small _ (name_at hi).2 _ z
      omega
theorem parts_all {xs : List Str} {cs : List Int} {p : Str} (h : p ∈ partsM xs cs xs.length) : ∃ i, i < xs.length ∧ 0 < cs.getD i 0 ∧ p = partAt xs cs i := by
  obtain ⟨i, hi, rfl⟩ := List.mem_map.mp h
  have := idxs_mem.mp hi
  exact ⟨i, this.1, this.2, rfl⟩
theorem join_split {xs : List Str} {cs : List Int} (g : GoodN xs) (h : partsM xs cs xs.length ≠ []) : Txt.split (Str.join (", " : Str) (partsM xs cs xs.length)) (", " : Str) = partsM xs cs xs.length := by
  rw [← TL.join_eq]
  refine TL.split_join tl_comma (by decide +kernel) h fun p hp => ?_
  obtain ⟨i, hi, _, rfl⟩ := parts_all hp
  exact partAt_comma g hi
theorem joinL_head (S p : List Nat) (r : List (List Nat)) {c : Nat} (h : c ∈ p) : c ∈ TL.joinL S (p :: r) := by
  cases r with
  | nil => exact h
  | cons q r => exact List.mem_append.mpr (.inl h)
theorem joined_blank {xs : List Str} {cs : List Int} (h : partsM xs cs xs.length ≠ []) : 32 ∈ TL.tl (Str.join (", " : Str) (partsM xs cs xs.length)) := by
  cases e : partsM xs cs xs.length with
  | nil => exact absurd e h
  | cons p r =>
    obtain ⟨i, _, _, rfl⟩ := parts_all (xs := xs) (cs := cs) (p := p) (by rw [e]; exact List.mem_cons_self)
    rw [TL.tl_join, List.map_cons]
    refine joinL_head _ _ _ ?_
    unfold partAt
    rw [tl_part]
    exact List.mem_append.mpr (.inr List.mem_cons_self)
theorem joined_other {xs : List Str} {cs : List Int} (h : partsM xs cs xs.length ≠ []) : Str.join (", " : Str) (partsM xs cs xs.length) ≠ ("nothing" : Str) := fun z => by
  have := joined_blank h
  rw [z] at this
  revert this
  decide +kernel
theorem join_len (y : Str) : ∀ ps : List Str, (∀ p ∈ ps, p.length ≤ 10) → (Str.join y ps).length ≤ ps.length * (10 + y.length)
  | [], _ => Nat.zero_le _
  | [p], h => by
    have := h p List.mem_cons_self
    show p.length ≤ (0 + 1) * (10 + y.length)
    omega
  | p :: q :: r, h => by
    have h1 := h p List.mem_cons_self
    have h2 := join_len y (q :: r) fun z hz => h z (List.mem_cons_of_mem _ hz)
    show (p ++ y ++ Str.join y (q :: r)).length ≤ ((q :: r).length + 1) * (10 + y.length)
    rw [str_len_app, str_len_app, Nat.add_mul]
    omega
theorem joined_len {xs : List Str} {cs : List Int} (g : GoodN xs) (h : FitC xs cs) : (Str.join (", " : Str) (partsM xs cs xs.length)).length ≤ 48 := by
  have h1 := join_len (", " : Str) (partsM xs cs xs.length) fun p hp => by
    obtain ⟨i, hi, _, rfl⟩ := parts_all hp
    exact partAt_len g h hi
  have h2 := partsM_len xs cs xs.length
  have h3 := g.few
  have b : (", " : Str).length = 2 := by decide +kernel
  rw [b] at h1
  omega
theorem parts_sum {ps : List Str} (h : ∀ p ∈ ps, p.length ≤ 10) : (ps.map (·.length)).sum ≤ ps.length * 10 := by
  induction ps with
  | nil => exact Nat.le_refl _
  | cons p r ih =>
    have h1 := h p List.mem_cons_self
    have h2 := ih fun z hz => h z (List.mem_cons_of_mem _ hz)
    rw [List.map_cons, List.sum_cons, List.length_cons]
    omega
/-- the first figure of a number above nought is no nought -/
theorem numL_head : ∀ n : Nat, 0 < n → ∃ c r, TL.numL n = c :: r ∧ c ≠ 48 := by
  intro n
  induction n using Nat.strongRecOn with
  | _ n ih =>
    intro h
    by_cases hn : n < 10
    · exact ⟨48 + n, [], TL.numL_lt hn, by omega⟩
    · obtain ⟨c, r, e, hc⟩ := ih (n / 10) (by omega) (by omega)
      refine ⟨c, r ++ [48 + n % 10], ?_, hc⟩
      rw [TL.numL_step (by omega), e]
      rfl
theorem numL_figs (n : Nat) : (TL.numL n).all (fun c => decide (c ∈ ("0123456789" : Str).cps.toList)) = true := by
  rw [List.all_eq_true]
  intro c hc
  have hd : 48 ≤ c ∧ c ≤ 57 := by
    have h1 : ¬ (c < 48 ∨ 57 < c) := fun z => TL.numL_free z hc
    omega
  obtain ⟨k, hk, rfl⟩ : ∃ k, k < 10 ∧ c = 48 + k := ⟨c - 48, by omega, by omega⟩
  have : ∀ k, k < 10 → decide ((48 + k) ∈ ("0123456789" : Str).cps.toList) = true := by decide +kernel
  exact this k hk
theorem numL_pos (n : Nat) : 1 ≤ (TL.numL n).length := by
  cases e : TL.numL n with
  | nil => exact absurd e (TL.numL_ne n)
  | cons c r => rw [List.length_cons]; omega
theorem numL_zero : TL.numL 0 = [48] := TL.numL_lt (by decide)
theorem part_cut (n : Nat) (x : Str) : Txt.partition (partS n x) (" " : Str) = (numS n, (" " : Str), x) :=
  TL.partition_app tl_blank (by rw [tl_numS]; exact TL.numL_free (by decide))
/-- an f-string's reading under a name of its own -/
def tJoined (ts : List TE) : TE := fun σ H Q => tJs ts Str.empty σ H fun out H1 => Q (.str out) H1
theorem pe_joinedD {X : Cx} {v1 v2 : Expr} {rest : List Expr} {ts : List TE} {pos : Pos} (h : PJ X (v1 :: v2 :: rest) ts) : PE X (.JoinedStr (v1 :: v2 :: rest) pos) (tJoined ts) := pe_joined h
/-! ### show_content -/
abbrev s_show_content : Stmt := topS 14
abbrev N_show_content : List Str := ["names", "content", "parts", "number", "name"]
theorem sc_show_content : FnScope N_show_content ["names", "content"] (defScope s_show_content) := ⟨rfl, rfl, rfl, by decide +kernel, rfl, by decide +kernel, by decide +kernel⟩

/-- a list of texts -/
abbrev LS (xs : List Str) : HO := .lst (xs.map V.str)
theorem ls_app (ls : List Str) (x : Str) : HO.lst (ls.map V.str ++ [.str x]) = LS (ls ++ [x]) := by
  show _ = HO.lst ((ls ++ [x]).map V.str)
  rw [List.map_append]
  rfl
theorem get_strs {xs : List Str} {i : Nat} {x : Str} (h : xs[i]? = some x) : (xs.map V.str)[i]? = some (.str x) := by
  rw [List.getElem?_map, h]
  rfl
theorem of_get_strs {xs : List Str} {i : Nat} {v : V} (h : (xs.map V.str)[i]? = some v) : ∃ x, xs[i]? = some x ∧ v = .str x := by
  rw [List.getElem?_map] at h
  cases e : xs[i]? with
  | none => rw [e] at h; cases h
  | some n => rw [e] at h; exact ⟨n, rfl, (Option.some.inj h).symm⟩
theorem fpart {c : Int} (h : 0 ≤ c) (x : Str) : ((Str.empty ++ Str.ofString (toString c)) ++ (" " : Str)) ++ x = partS c.toNat x := by
  obtain ⟨n, rfl⟩ := Int.eq_ofNat_of_zero_le h
  rw [str_nil_app]
  rfl
theorem small_log {c : Int} (h : 0 ≤ c) (h9 : c ≤ 9) : c.natAbs.log2 < 1920 := by
  have h1 : c.natAbs < 2 ^ 4 := by
    have : (2 : Nat) ^ 4 = 16 := rfl
    omega
  have := Nat.log2_lt (n := c.natAbs) (k := 4)
  by_cases hz : c.natAbs = 0
  · rw [hz]
    decide
  · have := (this hz).mpr h1
    omega
theorem num1_len {c : Int} (h : 0 ≤ c) (h9 : c ≤ 9) : (Str.ofString (toString c)).length ≤ 1 := by
  obtain ⟨n, rfl⟩ := Int.eq_ofNat_of_zero_le h
  have := TL.numL_len (n := n) (k := 1) (by decide) (by omega)
  have e : (Str.ofString (toString ((n : Nat) : Int))).length = (TL.numL n).length := numS_len n
  exact e ▸ this
theorem blank_len : (" " : Str).length = 1 := by decide +kernel
def sp_show_content (K : PySem.W.Frag) : Sp := fun vs H Q _ => ∃ (a b : Addr) (xs : List Str) (cs : List Int), vs = [.ref a, .ref b] ∧ H a = some (LS xs) ∧ H b = some (LI cs) ∧ GoodN xs ∧ FitC xs cs ∧ ∀ H', Same H H' → Q (.str (showM xs cs)) H'
section
variable {P : Program} {w : World} {K : PySem.W.Frag} {mg : Str → Option Value} {base : Heap} {T : List Addr}
theorem ok_show_content {f : Addr} {fd : FuncData} {k : Nat} (M : Names mg) (D : Def K mg "show_content" s_show_content ["names", "content"] f fd) : FnOk P w K mg base CX0 (k + 1) f fd ["names", "content"] (sp_show_content K) := by
  refine D.F.ok sc_show_content (fun vs H Q E h => ?_) (fun cdv A outer s H vs Q E hr h => ?_)
  · obtain ⟨a, b, xs, cs, rfl, _⟩ := h
    rfl
  · obtain ⟨a, b, xs, cs, rfl, ha, hb, g, fc, q⟩ := h
    have few := g.few
    refine ⟨_, (pss_cons (ps_setLc (i := 2) (own := [("number", 3), ("name", 4)]) (by rfl) sc_show_content.nd rfl rfl (sw_true rfl rfl rfl (by decide +kernel)) (pi_zip (by rfl) M.zip (pa_cons (pv 1) (pa_cons (pv 0) pa_nil))) (blkOk_by (own := [("number", 3), ("name", 4)]) (N := N_show_content) (sc := defScope s_show_content) (by decide +kernel)) (fun _ _ _ _ _ => (pg_tupK (K := K) (n := 2) rfl rfl (pgs_cons (pg_name (i := 3) sc_show_content.nd rfl (Or.inl rfl)) (pgs_cons (pg_name (i := 4) sc_show_content.nd rfl (Or.inl rfl)) pgs_nil)))) (fun _ _ _ _ _ => (pts_one (pt_cmpR op_gt (pv 3) pe_int (nomark _)))) (fun _ _ _ _ _ => (pe_joinedD (.cons (pe_fmt (pv 3)) (.cons pe_str (.cons (pe_fmt (pv 4)) .nil))))))
  (pss_one (ps_ret (pe_orT (pe_join pe_str (pv 2)) (pe_one pe_str))))), ?_⟩
    refine ⟨_, rfl, _, rfl, b, a, _, _, rfl, SqL.of hb, SqL.of ha, fun B nB => lc_it (walk_zip (K := K) (xs := cs.map V.int) (ys := xs.map V.str) rfl) (fun i H' => Same H H' ∧ H' B = some (LS (partsM xs cs i))) ⟨same_upd nB, upd_same⟩ (fun i H' _ hp => ⟨SqL.of (hp.1 _ _ hb), SqL.of (hp.1 _ _ ha)⟩) (fun i x H1 H2 hi hp hy => ?_) (fun H1 hp => ?_)⟩
    · obtain ⟨s1, hB⟩ := hp
      obtain ⟨Tt, x1, x2, rfl, nT, rfl, e1, e2⟩ := hy
      rw [List.length_map, List.length_map] at hi
      have hix : i < xs.length := by omega
      obtain ⟨n, hn, rfl⟩ := of_get_ints e1
      obtain ⟨m, hm, rfl⟩ := of_get_strs e2
      obtain ⟨f1, f2, f3⟩ := fc.at hix
      obtain ⟨g1, g2⟩ := name_at hix
      cases Option.some.inj (f1.symm.trans hn)
      cases Option.some.inj (g1.symm.trans hm)
      have hB2 := (same_upd (o := .tup [.int (cs.getD i 0), .str (xs.getD i Str.empty)]) nT) _ _ hB
      have s2 := s1.trans (same_upd (o := .tup [.int (cs.getD i 0), .str (xs.getD i Str.empty)]) nT)
      have sh := g.short _ g2
      have l1 := num1_len f2 f3
      refine ⟨Tt, _, rfl, SqT.of upd_same, rfl, _, _, rfl, _, _, rfl, rfl, rfl, _, rfl, _, _, rfl, rfl, _, rfl, ite2 (fun c => ?_) (fun c => ?_)⟩
      · have c2 : cs.getD i 0 > 0 := of_decide_eq_true c
        refine ⟨_, rfl, .inr ⟨_, rfl, small_log f2 f3, _, rfl, szL (by rw [str_nil_app]; omega), _, rfl, szL (by rw [str_nil_app, str_len_app, blank_len]; omega), _, rfl, .inl ⟨_, rfl, szL (by omega), _, rfl, szL (by rw [str_nil_app, str_len_app, str_len_app, blank_len]; omega), ?_⟩⟩⟩
        refine ⟨_, hB2, szL' (by rw [List.length_map]; have := partsM_len xs cs i; omega), sm_new s2 nB, ?_⟩
        rw [upd_same, ls_app, partsM_succ, if_pos c2, fpart f2]
        rfl
      · have c2 : ¬ cs.getD i 0 > 0 := fun z => c (decide_eq_true z)
        refine ⟨s2, ?_⟩
        rw [partsM_succ, if_neg c2, List.append_nil]
        exact hB2
    · obtain ⟨s1, hB⟩ := hp
      rw [List.length_map, List.length_map, fc.len, Nat.min_self] at hB
      have hl := partsM_len xs cs xs.length
      have pl : ∀ p ∈ partsM xs cs xs.length, p.length ≤ 10 := fun p hp => by
        obtain ⟨i, hi, _, rfl⟩ := parts_all hp
        exact partAt_len g fc hi
      have ps := parts_sum pl
      have jl := joined_len g fc
      have cl : (", " : Str).length = 2 := by decide +kernel
      unfold showM at q
      by_cases z : partsM xs cs xs.length = []
      · rw [if_pos z] at q
        rw [z] at hB
        exact ⟨⟨_, rfl⟩, _, rfl, _, B, [], rfl, rfl, .inl (SqL.of hB), by decide, false, ⟨by decide +kernel, by decide +kernel⟩, q H1 s1⟩
      · rw [if_neg z] at q
        have := joined_blank z
        have l0 : (Str.join (", " : Str) (partsM xs cs xs.length)).length ≠ 0 := fun e => by
          rw [TL.len0_tl] at e
          rw [e] at this
          cases this
        refine ⟨⟨_, rfl⟩, _, rfl, _, B, _, rfl, rfl, .inl (SqL.of hB), by rw [cl]; omega, true, ⟨szL (by rw [TL.join_eq]; omega), ?_⟩, ?_⟩
        · rw [TL.join_eq]
          symm
          simp only [bne_iff_ne, ne_eq]
          omega
        · rw [TL.join_eq]
          exact q H1 s1
end
/-! ### made_of, read_number, within_bounds -/
abbrev s_made_of : Stmt := topS 15
abbrev N_made_of : List Str := ["signs", "text", "most", "sign"]
theorem sc_made_of : FnScope N_made_of ["signs", "text", "most"] (defScope s_made_of) := ⟨rfl, rfl, rfl, by decide +kernel, rfl, by decide +kernel, by decide +kernel⟩

abbrev s_read_number : Stmt := topS 16
abbrev N_read_number : List Str := ["text", "figures"]
theorem sc_read_number : FnScope N_read_number ["text", "figures"] (defScope s_read_number) := ⟨rfl, rfl, rfl, by decide +kernel, rfl, by decide +kernel, by decide +kernel⟩

abbrev s_within_bounds : Stmt := topS 17
abbrev N_within_bounds : List Str := ["content", "many", "number"]
theorem sc_within_bounds : FnScope N_within_bounds ["content"] (defScope s_within_bounds) := ⟨rfl, rfl, rfl, by decide +kernel, rfl, by decide +kernel, by decide +kernel⟩

def madeM (z a : Str) (most : Int) : Bool := if 1 ≤ a.length ∧ (a.length : Int) ≤ most then a.cps.toList.all (fun c => decide (c ∈ z.cps.toList)) else false
def sp_made_of (T : List Addr) : Sp := fun vs H Q _ => ∃ (z a : Str) (most : Int), vs = [.str z, .str a, .int most] ∧ a.length ≤ sizeLine ∧ Tb T H ∧ ∀ H', Ext T H H' → Q (.bl (madeM z a most)) H'
def sp_read_number (T : List Addr) : Sp := fun vs H Q _ => ∃ (n k : Nat), vs = [.str (numS n), .int k] ∧ n < 10 ^ k ∧ 0 < k ∧ k ≤ 12 ∧ Tb T H ∧ ∀ H', Ext T H H' → Q (.int (n : Int)) H'
def boundM (cs : List Int) : Int := cs.foldl (fun p c => p * (c + 1)) 1
def sp_within_bounds : Sp := fun vs H Q _ => ∃ (a : Addr) (cs : List Int), vs = [.ref a] ∧ H a = some (LI cs) ∧ (∀ c ∈ cs, 0 ≤ c ∧ c ≤ 9) ∧ cs.length ≤ 4 ∧ Q (.bl (decide (boundM cs ≤ 400))) H
section
variable {P : Program} {w : World} {K : PySem.W.Frag} {mg : Str → Option Value} {base : Heap} {T : List Addr}
theorem ok_made_of {f c t : Addr} {fd : FuncData} {k : Nat} (M : Names mg) (D : Def K mg "made_of" s_made_of ["signs", "text", "most"] f fd) (hc : fd.code = .ref c) (TB : GxR.TabB base mg c t) (ht : t ∈ T) : FnOk P w K mg base CX0 (k + 1) f fd ["signs", "text", "most"] (sp_made_of T) := by
  refine okc D.F hc sc_made_of (fun vs H Q E h => ?_) (fun cdv A outer s H vs Q E ec hr h => ?_)
  · obtain ⟨z, a, most, rfl, _⟩ := h
    rfl
  · obtain ⟨z, a, most, rfl, hl, hT, q⟩ := h
    refine ⟨_, (pss_one (ps_ret (pe_and (pe_chain op_le op_le pe_int (pe_callB call_len_str (by rfl) M.len (by decide +kernel) (pa_cons (pv 1) pa_nil)) (pv 2)) (pe_one (pe_allIn (i := 0) hr (by rfl) M.all (by decide +kernel) TB ec ⟨rfl, rfl, by decide +kernel, rfl, rfl, (by show ∀ y : Str × NameKind, y ∈ _ → y.2 = .free → (defScope s_made_of).names.lookup y.1 = some .cell; decide +kernel)⟩ (pv 1) rfl rfl rfl (fun cc h => by show some (((envOfC "made_of" (defScope s_made_of) s.heap.objs.size f cdv).cells.lookup ("signs" : Str)).getD 0) = some cc; rw [show (envOfC "made_of" (defScope s_made_of) s.heap.objs.size f cdv).cells.lookup ("signs" : Str) = some cc from h]; rfl) (by decide) (by decide) (by decide)))))), ?_⟩
    unfold madeM at q
    by_cases h1 : 1 ≤ a.length
    · by_cases h2 : (a.length : Int) ≤ most
      · rw [if_pos ⟨h1, h2⟩] at q
        refine ⟨_, rfl, _, rfl, hl, _, _, rfl, rfl, true, (by show V.bl _ = V.bl _; rw [decide_eq_true (by omega)]), _, rfl, _, _, rfl, rfl, true, (by show V.bl _ = V.bl _; rw [decide_eq_true h2]), ?_⟩
        exact ⟨_, rfl, a, z, rfl, rfl, hT t ht, fun H2 t2 => q H2 (.tabbed hT t2 ht)⟩
      · rw [if_neg (fun z => h2 z.2)] at q
        exact ⟨_, rfl, _, rfl, hl, _, _, rfl, rfl, true, (by show V.bl _ = V.bl _; rw [decide_eq_true (by omega)]), _, rfl, _, _, rfl, rfl, false, (by show V.bl _ = V.bl _; rw [decide_eq_false h2]), q H (.refl hT)⟩
    · rw [if_neg (fun z => h1 z.1)] at q
      exact ⟨_, rfl, _, rfl, hl, _, _, rfl, rfl, false, (by show V.bl _ = V.bl _; rw [decide_eq_false (by omega)]), false, rfl, q H (.refl hT)⟩
theorem made_num {n k : Nat} (hk : 0 < k) (h : n < 10 ^ k) : madeM ("0123456789" : Str) (numS n) k = true := by
  unfold madeM
  have l1 := numL_pos n
  have l2 := TL.numL_len hk h
  rw [if_pos (by rw [numS_len]; exact ⟨l1, by omega⟩)]
  have := numL_figs n
  rw [← tl_numS] at this
  exact this
theorem ok_read_number {f f1 c t : Addr} {fd fd1 : FuncData} {k : Nat} (M : Names mg) (D : Def K mg "read_number" s_read_number ["text", "figures"] f fd) (D_made_of : Def K mg "made_of" s_made_of ["signs", "text", "most"] f1 fd1) (hc : fd1.code = .ref c) (TB : GxR.TabB base mg c t) (ht : t ∈ T) : FnOk P w K mg base CX0 (k + 2) f fd ["text", "figures"] (sp_read_number T) := by
  have G_made_of : FnOk P w K mg base CX0 (k + 1) f1 fd1 ["signs", "text", "most"] (sp_made_of T) := ok_made_of M D_made_of hc TB ht
  obtain ⟨tF, m_FIGURES⟩ := M.c_FIGURES
  refine D.F.ok sc_read_number (fun vs H Q E h => ?_) (fun cdv A outer s H vs Q E hr h => ?_)
  · obtain ⟨n, k, rfl, _⟩ := h
    rfl
  · obtain ⟨n, k, rfl, hn, hk, hk2, hT, q⟩ := h
    have l1 := numL_pos n
    have l2 := TL.numL_len hk hn
    have ln := numS_len n
    refine ⟨_, (pss_cons (ps_if (PW.pt (pw_or (pt_not (pt_val (pe_call G_made_of hr (by rfl) D_made_of.g D_made_of.F.kp D_made_of.b .nil pass0 (pa_cons (pe_glob (v := .str "0123456789") (by rfl) m_FIGURES ⟨_, rfl⟩) (pa_cons (pv 0) (pa_cons (pv 1) pa_nil)))))) (pw_or1 (PW.pt (pw_and (pt_cmpR op_eq (pe_ix ix_str (pv 0) pe_int (fun _ _ => rfl)) pe_str (nomark _)) (pw_and1 (pt_cmpR op_ne (pv 0) pe_str (nomark _))))))))
   (pss_one ps_never)
   pss_nil)
  (pss_one (ps_ret (pe_callTy call_int_str (by rfl) M.int (by decide +kernel) (pa_cons (pv 0) pa_nil))))), ?_⟩
    refine ⟨_, rfl, _, rfl, _, _, _, rfl, szL (by omega), hT, fun H1 e1 => ?_⟩
    rw [made_num hk hn]
    have fin : intText? (numS n) = some (n : Int) := TL.int_num (by omega)
    have last : ∀ {Q' : V → Hp → Prop}, Q' (.int (n : Int)) H1 → ∃ a m, [V.str (numS n)] = [.str a] ∧ PySem.intText? a = some m ∧ a.length ≤ 640 ∧ Q' (.int m) H1 := fun h => ⟨_, _, rfl, fin, by omega, h⟩
    by_cases z : n = 0
    · subst z
      refine ⟨true, rfl, _, rfl, _, _, 48, rfl, rfl, szL (by omega), by decide +kernel, rfl, true, by decide +kernel, _, rfl, rfl, false, by decide +kernel, _, rfl, last (q H1 e1)⟩
    · obtain ⟨c0, r, e0, n0⟩ := numL_head n (by omega)
      have ht0 : (numS n).cps.toList = c0 :: r := (tl_numS n).trans e0
      refine ⟨true, rfl, _, rfl, _, _, c0, rfl, rfl, szL (by omega), by rw [ht0]; exact atI_nat (j := 0) rfl, rfl, false, ?_, _, rfl, last (q H1 e1)⟩
      refine congrArg V.bl (decide_eq_false fun z2 => n0 ?_)
      have z3 := V.str.inj z2
      have z4 : TL.tl (⟨#[c0]⟩ : Str) = TL.tl ("0" : Str) := congrArg TL.tl z3
      rw [show TL.tl ("0" : Str) = [48] by decide +kernel] at z4
      exact (List.cons.inj z4).1
theorem ok_within_bounds {f : Addr} {fd : FuncData} {k : Nat} (M : Names mg) (D : Def K mg "within_bounds" s_within_bounds ["content"] f fd) : FnOk P w K mg base CX0 (k + 1) f fd ["content"] sp_within_bounds := by
  obtain ⟨tF, m_MOST_LESSER⟩ := M.c_MOST_LESSER
  refine D.F.ok sc_within_bounds (fun vs H Q E h => ?_) (fun cdv A outer s H vs Q E hr h => ?_)
  · obtain ⟨a, cs, rfl, _⟩ := h
    rfl
  · obtain ⟨a, cs, rfl, ha, sm, hl, q⟩ := h
    refine ⟨_, (pss_cons (ps_set (i := 1) sc_within_bounds.nd rfl (Or.inl rfl) pe_int)
  (pss_cons (ps_for PassesOwn.never rfl (pi_list (pv 0)) (pg_name (i := 2) sc_within_bounds.nd rfl (Or.inl rfl))
   (pss_one (ps_aug (i := 1) sc_within_bounds.nd rfl (Or.inl rfl) (pe_op op_add (pv 2) pe_int) iop_mul)))
  (pss_one (ps_ret (pe_cmpR op_le (pv 1) (pe_glob (v := .int 400) (by rfl) m_MOST_LESSER ⟨_, rfl⟩) (nomark _)))))), ?_⟩
    refine ⟨_, rfl, a, rfl, ⟨_, SqL.of ha⟩, for_list (xs := cs.map V.int) (fun i σ H' => ∃ y2, σ = [some (.ref a), some (.int (boundM (cs.take i))), y2] ∧ H' = H) ⟨none, rfl, rfl⟩ (fun i σ H' _ hp => ?_) (fun i x σ H' hx hp => ?_) (fun σ H' hp => ?_)⟩
    · obtain ⟨_, _, rfl⟩ := hp
      exact SqL.of ha
    · obtain ⟨y2, rfl, rfl⟩ := hp
      obtain ⟨n, hn, rfl⟩ := of_get_ints hx
      have := sm n (List.mem_of_getElem? hn)
      refine ⟨_, rfl, _, rfl, _, _, rfl, rfl, _, _, rfl, rfl, (.inr ⟨by omega, by omega⟩), some (.int n), ?_, rfl⟩
      rw [take_succ_at hn]
      unfold boundM
      rw [List.foldl_append]
      rfl
    · obtain ⟨y2, rfl, rfl⟩ := hp
      rw [List.length_map, List.take_length]
      exact ⟨_, rfl, _, _, rfl, rfl, q⟩
end
/-! ### read_thing, read_content -/
abbrev s_read_thing : Stmt := topS 18
abbrev N_read_thing : List Str := ["names", "text", "figures", "blank", "name"]
theorem sc_read_thing : FnScope N_read_thing ["names", "text"] (defScope s_read_thing) := ⟨rfl, rfl, rfl, by decide +kernel, rfl, by decide +kernel, by decide +kernel⟩

abbrev s_read_content : Stmt := topS 19
abbrev N_read_content : List Str := ["names", "text", "content", "part", "number", "thing"]
theorem sc_read_content : FnScope N_read_content ["names", "text"] (defScope s_read_content) := ⟨rfl, rfl, rfl, by decide +kernel, rfl, by decide +kernel, by decide +kernel⟩

theorem inV_strs (x : Str) : ∀ xs : List Str, inV (.str x) (xs.map V.str) = decide (x ∈ xs)
  | [] => rfl
  | y :: r => by
    have ih := inV_strs x r
    unfold inV at ih ⊢
    rw [List.map_cons, List.any_cons, ih]
    show ((y == x) || decide (x ∈ r)) = decide (x ∈ y :: r)
    by_cases h : y = x
    · subst h
      simp
    · have h2 : ¬ x = y := fun z => h z.symm
      simp [h, h2]
theorem flat_strs (xs : List Str) : (xs.map V.str).all flatV = true := by
  rw [List.all_eq_true]
  intro v hv
  obtain ⟨x, _, rfl⟩ := List.mem_map.mp hv
  rfl
theorem nodup_at {xs : List Str} (nd : xs.Nodup) {i : Nat} {x : Str} (h : xs[i]? = some x) : ∀ (m : Nat) (z : V), m < i → (xs.map V.str)[m]? = some z → eqV z (.str x) = false := fun m z hm hz => by
  obtain ⟨y, hy, rfl⟩ := of_get_strs hz
  show (y == x) = false
  refine beq_eq_false_iff_ne.mpr fun e => ?_
  subst e
  have h1 := (List.getElem?_eq_some_iff.mp h)
  have h2 := (List.getElem?_eq_some_iff.mp hy)
  obtain ⟨l1, e1⟩ := h1
  obtain ⟨l2, e2⟩ := h2
  exact List.pairwise_iff_getElem.mp nd m i l2 l1 hm (e2.trans e1.symm)
theorem zeros_map (n : Nat) : (List.replicate n [V.int 0]).flatten = (List.replicate n (0 : Int)).map V.int := by
  induction n with
  | zero => rfl
  | succ n ih =>
    rw [List.replicate_succ, List.flatten_cons, ih, List.replicate_succ, List.map_cons]
    rfl
theorem parts_nil {xs : List Str} {cs : List Int} (fc : FitC xs cs) (h : partsM xs cs xs.length = []) : cs = List.replicate xs.length 0 := by
  unfold partsM at h
  have h0 := List.map_eq_nil_iff.mp h
  refine List.ext_getElem (by rw [fc.len, List.length_replicate]) fun i h1 h2 => ?_
  rw [List.getElem_replicate]
  have hi : i < xs.length := by rw [← fc.len]; exact h1
  obtain ⟨f1, f2, f3⟩ := fc.at hi
  have e := (List.getElem?_eq_some_iff.mp f1).2
  rw [e]
  by_cases z : 0 < cs.getD i 0
  · have := idxs_mem.mpr ⟨hi, z⟩
    rw [h0] at this
    cases this
  · omega
def sp_read_thing (T : List Addr) : Sp := fun vs H Q _ => ∃ (a : Addr) (xs : List Str) (i n : Nat) (x : Str), vs = [.ref a, .str (partS n x)] ∧ H a = some (LS xs) ∧ GoodN xs ∧ xs[i]? = some x ∧ n < 10 ∧ Tb T H ∧
  ∀ H' t, Ext T H H' → H t = none → H' t = some (.tup [.int (i : Nat), .int (n : Nat)]) → Q (.ref t) H'
def sp_read_content (T : List Addr) : Sp := fun vs H Q _ => ∃ (a : Addr) (xs : List Str) (cs : List Int), vs = [.ref a, .str (showM xs cs)] ∧ H a = some (LS xs) ∧ GoodN xs ∧ FitC xs cs ∧ boundM cs ≤ 400 ∧ Tb T H ∧
  ∀ H' p, Ext T H H' → H p = none → H' p = some (LI cs) → Q (.ref p) H'
section
variable {P : Program} {w : World} {K : PySem.W.Frag} {mg : Str → Option Value} {base : Heap} {T : List Addr}
theorem ok_read_thing {f f1 f2 c t : Addr} {fd fd1 fd2 : FuncData} {k : Nat} (M : Names mg) (D : Def K mg "read_thing" s_read_thing ["names", "text"] f fd) (D_read_number : Def K mg "read_number" s_read_number ["text", "figures"] f1 fd1) (D_made_of : Def K mg "made_of" s_made_of ["signs", "text", "most"] f2 fd2) (hc : fd2.code = .ref c) (TB : GxR.TabB base mg c t) (ht : t ∈ T) : FnOk P w K mg base CX0 (k + 3) f fd ["names", "text"] (sp_read_thing T) := by
  have G_read_number : FnOk P w K mg base CX0 (k + 2) f1 fd1 ["text", "figures"] (sp_read_number T) := ok_read_number M D_read_number D_made_of hc TB ht
  obtain ⟨tF, m_THING_FIGURES⟩ := M.c_THING_FIGURES
  refine D.F.ok sc_read_thing (fun vs H Q E h => ?_) (fun cdv A outer s H vs Q E hr h => ?_)
  · obtain ⟨a, xs, i, n, x, rfl, _⟩ := h
    rfl
  · obtain ⟨a, xs, i, n, x, rfl, ha, g, hx, hn, hT, q⟩ := h
    have mx := List.mem_of_getElem? hx
    have sh := g.short _ mx
    have l2 := TL.numL_len (n := n) (k := 1) (by decide) (by omega)
    have lp : (partS n x).length ≤ 10 := by
      unfold partS
      rw [str_len_app, str_len_app, numS_len, blank_len]
      omega
    refine ⟨_, (pss_cons (ps_asg (pe_partition (pv 1) pe_str) (pg_tup rfl (pgs_cons (pg_name (i := 2) sc_read_thing.nd rfl (Or.inl rfl)) (pgs_cons (pg_name (i := 3) sc_read_thing.nd rfl (Or.inl rfl)) (pgs_cons (pg_name (i := 4) sc_read_thing.nd rfl (Or.inl rfl)) pgs_nil)))))
  (pss_cons (ps_if (pt_cmpR op_notIn_seq (pv 4) (pv 0) (by rfl))
   (pss_one ps_never)
   pss_nil)
  (pss_one (ps_ret (pe_tup (pa_cons (pe_bm PySem.F.plainAttrs_list PySem.F.slot_list_index PySem.F.type_list_index mt_index (pv 0) (pa_cons (pv 4) pa_nil)) (pa_cons (pe_call G_read_number hr (by rfl) D_read_number.g D_read_number.F.kp D_read_number.b .nil pass0 (pa_cons (pv 2) (pa_cons (pe_glob (v := .int 1) (by rfl) m_THING_FIGURES ⟨_, rfl⟩) pa_nil))) pa_nil))))))), ?_⟩
    refine ⟨_, rfl, ⟨_, rfl⟩, _, _, rfl, rfl, by decide +kernel, szL (by omega), fun p np => ?_⟩
    rw [part_cut]
    have s1 := same_upd (o := .tup [.str (numS n), .str (" " : Str), .str x]) np
    have a1 := s1 _ _ ha
    refine ⟨p, _, rfl, SqT.of upd_same, rfl, _, _, rfl, _, _, rfl, _, _, rfl, rfl, ?_⟩
    have E1 : Ext T H _ := .same s1 hT
    generalize upd H p (.tup [.str (numS n), .str (" " : Str), .str x]) = H1 at s1 a1 E1 ⊢
    refine ⟨_, rfl, _, rfl, a, _, rfl, .inl (SqL.of a1), rfl, flat_strs xs, false, ?_, ?_⟩
    · show V.bl (!inV (.str x) (xs.map V.str)) = V.bl false
      rw [inV_strs, decide_eq_true mx]
      rfl
    refine ⟨_, rfl, .inl ⟨rfl, _, SqL.of a1⟩, _, rfl, a, _, _, i, _, rfl, rfl, SqL.of a1, rfl, flat_strs xs, get_strs hx, beq_self_eq_true x, nodup_at g.nd hx, ?_⟩
    refine ⟨_, rfl, n, 1, rfl, by omega, by decide, by decide, E1.t1, fun H2 e2 => ⟨by show 2 ≤ sizeLine; decide, fun t nt => ?_⟩⟩
    have E2 := E1.trans e2
    exact q _ t (E2.new (E2.free _ nt)) (E2.free _ nt) upd_same
theorem ok_read_content {f f1 f2 f3 f4 f5 c t : Addr} {fd fd1 fd2 fd3 fd4 fd5 : FuncData} {k : Nat} (M : Names mg) (D : Def K mg "read_content" s_read_content ["names", "text"] f fd) (D_read_thing : Def K mg "read_thing" s_read_thing ["names", "text"] f3 fd3) (D_show_content : Def K mg "show_content" s_show_content ["names", "content"] f4 fd4) (D_within_bounds : Def K mg "within_bounds" s_within_bounds ["content"] f5 fd5) (D_read_number : Def K mg "read_number" s_read_number ["text", "figures"] f1 fd1) (D_made_of : Def K mg "made_of" s_made_of ["signs", "text", "most"] f2 fd2) (hc : fd2.code = .ref c) (TB : GxR.TabB base mg c t) (ht : t ∈ T) : FnOk P w K mg base CX0 (k + 4) f fd ["names", "text"] (sp_read_content T) := by
  have G_read_thing : FnOk P w K mg base CX0 (k + 3) f3 fd3 ["names", "text"] (sp_read_thing T) := ok_read_thing M D_read_thing D_read_number D_made_of hc TB ht
  have G_show_content : FnOk P w K mg base CX0 (k + 3) f4 fd4 ["names", "content"] (sp_show_content K) := ok_show_content M D_show_content
  have G_within_bounds : FnOk P w K mg base CX0 (k + 3) f5 fd5 ["content"] sp_within_bounds := ok_within_bounds M D_within_bounds
  refine D.F.ok sc_read_content (fun vs H Q E h => ?_) (fun cdv A outer s H vs Q E hr h => ?_)
  · obtain ⟨a, xs, cs, rfl, _⟩ := h
    rfl
  · obtain ⟨a, xs, cs, rfl, ha, g, fc, hb, hT, q⟩ := h
    have few := g.few
    have jl := joined_len g fc
    refine ⟨_, (pss_cons (ps_set (i := 2) sc_read_content.nd rfl (Or.inl rfl) (pe_op op_rep (pe_lst (pa_cons pe_int pa_nil)) (pe_callB call_len_seq (by rfl) M.len (by decide +kernel) (pa_cons (pv 0) pa_nil))))
  (pss_cons (ps_if (pt_cmpR op_eq (pv 1) pe_str (nomark _))
   (pss_one (ps_ret (pv 2)))
   pss_nil)
  (pss_cons (ps_for PassesOwn.never rfl (pi_list (pe_split (pv 1) pe_str)) (pg_name (i := 3) sc_read_content.nd rfl (Or.inl rfl))
   (pss_cons (ps_asg (pe_call G_read_thing hr (by rfl) D_read_thing.g D_read_thing.F.kp D_read_thing.b .nil pass0 (pa_cons (pv 0) (pa_cons (pv 3) pa_nil))) (pg_tup rfl (pgs_cons (pg_name (i := 5) sc_read_content.nd rfl (Or.inl rfl)) (pgs_cons (pg_name (i := 4) sc_read_content.nd rfl (Or.inl rfl)) pgs_nil))))
  (pss_one (ps_asg (pv 4) (pg_sub (pv 2) (pv 5) set_list)))))
  (pss_cons (ps_if (PW.pt (pw_or (pt_cmpR op_ne (pe_call G_show_content hr (by rfl) D_show_content.g D_show_content.F.kp D_show_content.b .nil pass0 (pa_cons (pv 0) (pa_cons (pv 2) pa_nil))) (pv 1) (nomark _)) (pw_or1 (pt_not (pt_val (pe_call G_within_bounds hr (by rfl) D_within_bounds.g D_within_bounds.F.kp D_within_bounds.b .nil pass0 (pa_cons (pv 2) pa_nil)))))))
   (pss_one ps_never)
   pss_nil)
  (pss_one (ps_ret (pv 2))))))), ?_⟩
    refine ⟨by show 1 ≤ sizeLine; decide, fun l nl => ?_⟩
    have s1 := same_upd (o := .lst [V.int 0]) nl
    refine ⟨_, rfl, a, _, rfl, .inl (SqL.of (s1 _ _ ha)), l, _, _, rfl, rfl, upd_same, by omega, by rw [List.length_map]; omega, szL (by rw [List.length_map]; show 1 * ((xs.length : Nat) : Int).toNat ≤ _; omega), fun B nB => ?_⟩
    have s2 := s1.trans (same_upd (o := .lst (List.replicate ((((xs.map V.str).length : Nat) : Int)).toNat [V.int 0]).flatten) nB)
    have hB : upd (upd H l (.lst [V.int 0])) B (.lst (List.replicate ((((xs.map V.str).length : Nat) : Int)).toNat [V.int 0]).flatten) B = some (LI (List.replicate xs.length 0)) := by
      rw [upd_same, zeros_map, Int.toNat_natCast, List.length_map]
    have nB0 : H B = none := s1.free nB
    generalize upd (upd H l (.lst [V.int 0])) B (.lst (List.replicate ((((xs.map V.str).length : Nat) : Int)).toNat [V.int 0]).flatten) = H1 at s2 hB ⊢
    have E1 : Ext T H H1 := .same s2 hT
    by_cases z : partsM xs cs xs.length = []
    · have e0 : showM xs cs = ("nothing" : Str) := by unfold showM; rw [if_pos z]
      rw [e0]
      refine ⟨_, rfl, rfl, true, by decide +kernel, _, rfl, ?_⟩
      rw [← parts_nil fc z] at hB
      exact q H1 B E1 nB0 hB
    · have e0 : showM xs cs = Str.join (", " : Str) (partsM xs cs xs.length) := by unfold showM; rw [if_neg z]
      have ne0 := joined_other z
      refine ⟨_, rfl, rfl, false, congrArg V.bl (decide_eq_false fun z2 => ?_), ?_⟩
      · have z3 := V.str.inj z2
        rw [e0] at z3
        exact ne0 z3
      refine ⟨_, rfl, ⟨_, rfl⟩, _, _, rfl, rfl, by decide +kernel, szL (by rw [e0]; omega), fun L nL => ?_⟩
      have sp : Txt.split (showM xs cs) (", " : Str) = partsM xs cs xs.length := by rw [e0]; exact join_split g z
      rw [sp]
      have hL : upd H1 L (.lst ((partsM xs cs xs.length).map V.str)) L = some (LS (partsM xs cs xs.length)) := upd_same
      have hB1 := (same_upd (o := .lst ((partsM xs cs xs.length).map V.str)) nL) _ _ hB
      have nL0 : H L = none := E1.free _ nL
      have neLB : L ≠ B := fun e => by rw [e, hB] at nL; cases nL
      have E2 : Ext T H _ := E1.new (o := .lst ((partsM xs cs xs.length).map V.str)) nL0
      generalize upd H1 L (.lst ((partsM xs cs xs.length).map V.str)) = H2 at hL hB1 E2 ⊢
      refine ⟨L, rfl, ⟨_, SqL.of hL⟩, for_list (xs := (partsM xs cs xs.length).map V.str) (fun j σ H' => ∃ y3 y4 y5, σ = [some (.ref a), some (.str (showM xs cs)), some (.ref B), y3, y4, y5] ∧ Ext T H H' ∧ H' L = some (LS (partsM xs cs xs.length)) ∧ ∃ ls : List Int, H' B = some (LI ls) ∧ ls.length = xs.length ∧ ∀ i, i < xs.length → ls[i]? = some (if i ∈ (idxs cs xs.length).take j then cs.getD i 0 else 0)) ⟨none, none, none, rfl, E2, hL, _, hB1, List.length_replicate, fun i hi => ?_⟩ (fun i σ H' _ hp => ?_) (fun j x σ H' hx hp => ?_) (fun σ H' hp => ?_)⟩
      · rw [List.take_zero, if_neg (by simp), List.getElem?_replicate, if_pos hi]
      · obtain ⟨_, _, _, _, _, h, _⟩ := hp
        exact SqL.of h
      · obtain ⟨y3, y4, y5, rfl, E3, hL3, ls, hB3, hls, hat⟩ := hp
        obtain ⟨p, hp, rfl⟩ := of_get_strs hx
        have hpl : j < (partsM xs cs xs.length).length := (List.getElem?_eq_some_iff.mp hp).1
        obtain ⟨i, hi, ei⟩ : ∃ i, (idxs cs xs.length)[j]? = some i ∧ partAt xs cs i = p := by
          unfold partsM at hp
          rw [List.getElem?_map] at hp
          cases e : (idxs cs xs.length)[j]? with
          | none => rw [e] at hp; cases hp
          | some i => rw [e] at hp; exact ⟨i, rfl, Option.some.inj hp⟩
        obtain ⟨i1, i2⟩ := idxs_mem.mp (List.mem_of_getElem? hi)
        obtain ⟨f1, f2, f3⟩ := fc.at i1
        obtain ⟨g1, g2⟩ := name_at i1
        subst ei
        refine ⟨_, rfl, _, rfl, a, xs, i, (cs.getD i 0).toNat, xs.getD i Str.empty, rfl, E3.lst ha, g, g1, by omega, E3.t1, fun H4 tp e4 nt htp => ?_⟩
        refine ⟨tp, _, rfl, SqT.of htp, rfl, _, _, rfl, _, _, rfl, rfl, ?_⟩
        have hB4 := e4.lst hB3
        have hL4 := e4.lst hL3
        refine ⟨_, rfl, _, rfl, _, rfl, B, _, _, i, rfl, rfl, hB4, ixN_nat (by rw [List.length_map]; omega), ?_⟩
        refine ⟨_, _, _, rfl, (E3.trans e4).new nB0, ?_, ls.set i (cs.getD i 0), ?_, by rw [List.length_set]; exact hls, fun i' hi' => ?_⟩
        · rw [upd_ne neLB]
          exact hL4
        · have : (((cs.getD i 0).toNat : Nat) : Int) = cs.getD i 0 := by omega
          rw [this]
          exact at_set
        · rw [take_succ_at hi]
          by_cases e : i' = i
          · subst e
            rw [List.getElem?_set_self (by omega), if_pos (List.mem_append.mpr (.inr List.mem_cons_self))]
          · rw [List.getElem?_set_ne (fun z => e z.symm), hat i' hi']
            by_cases m : i' ∈ (idxs cs xs.length).take j
            · rw [if_pos m, if_pos (List.mem_append.mpr (.inl m))]
            · rw [if_neg m, if_neg fun z => ?_]
              rcases List.mem_append.mp z with z | z
              · exact m z
              · exact e (List.mem_singleton.mp z)
      · obtain ⟨y3, y4, y5, rfl, E3, hL3, ls, hB3, hls, hat⟩ := hp
        have els : ls = cs := by
          refine List.ext_getElem (by rw [hls, fc.len]) fun i h1 h2 => ?_
          have hi : i < xs.length := by omega
          have h3 := hat i hi
          obtain ⟨f1, f2, f3⟩ := fc.at hi
          rw [List.length_map, List.take_of_length_le (by unfold partsM; rw [List.length_map]; exact Nat.le_refl _)] at h3
          rw [List.getElem?_eq_getElem h1] at h3
          rw [List.getElem?_eq_getElem h2] at f1
          have e3 := Option.some.inj h3
          have e1 := Option.some.inj f1
          rw [e3]
          by_cases m : i ∈ idxs cs xs.length
          · rw [if_pos m, e1]
          · rw [if_neg m, e1]
            have : ¬ 0 < cs.getD i 0 := fun z => m (idxs_mem.mpr ⟨hi, z⟩)
            omega
        subst els
        refine ⟨_, rfl, _, rfl, a, B, xs, ls, rfl, E3.lst ha, hB3, g, fc, fun H4 s4 => ?_⟩
        have E4 : Ext T H H4 := E3.trans (.same s4 E3.t1)
        refine ⟨_, rfl, rfl, false, by simp, _, rfl, B, ls, rfl, s4 _ _ hB3, fc.small, by rw [hls]; exact few, true, by rw [decide_eq_true hb], ?_⟩
        exact ⟨_, rfl, q H4 B E4 nB0 (s4 _ _ hB3)⟩
end
/-! ### lines, as lists -/
/-- place by place -/
def Al {α : Type} (R : Addr → α → Prop) : List Addr → List α → Prop
  | [], [] => True
  | a :: as, x :: xs => R a x ∧ Al R as xs
  | _, _ => False
section
variable {α : Type} {R R' : Addr → α → Prop}
theorem Al.len : ∀ {as : List Addr} {xs : List α}, Al R as xs → as.length = xs.length
  | [], [], _ => rfl
  | [], _ :: _, h => h.elim
  | _ :: _, [], h => h.elim
  | _ :: _, _ :: _, h => by rw [List.length_cons, List.length_cons, Al.len h.2]
theorem Al.app : ∀ {as bs : List Addr} {xs ys : List α}, Al R as xs → Al R bs ys → Al R (as ++ bs) (xs ++ ys)
  | [], _, [], _, _, k => k
  | [], _, _ :: _, _, h, _ => h.elim
  | _ :: _, _, [], _, h, _ => h.elim
  | _ :: _, _, _ :: _, _, h, k => ⟨h.1, Al.app h.2 k⟩
theorem Al.imp (f : ∀ a x, R a x → R' a x) : ∀ {as : List Addr} {xs : List α}, Al R as xs → Al R' as xs
  | [], [], _ => True.intro
  | [], _ :: _, h => h.elim
  | _ :: _, [], h => h.elim
  | _ :: _, _ :: _, h => ⟨f _ _ h.1, Al.imp f h.2⟩
theorem Al.impM : ∀ {as : List Addr} {xs : List α}, (∀ a x, a ∈ as → R a x → R' a x) → Al R as xs → Al R' as xs
  | [], [], _, _ => True.intro
  | [], _ :: _, _, h => h.elim
  | _ :: _, [], _, h => h.elim
  | _ :: _, _ :: _, f, h => ⟨f _ _ List.mem_cons_self h.1, Al.impM (fun a x m => f a x (List.mem_cons_of_mem _ m)) h.2⟩
theorem Al.get : ∀ {as : List Addr} {xs : List α} {i : Nat} {a : Addr}, Al R as xs → as[i]? = some a → ∃ x, xs[i]? = some x ∧ R a x
  | [], [], _, _, _, e => by simp at e
  | [], _ :: _, _, _, h, _ => h.elim
  | _ :: _, [], _, _, h, _ => h.elim
  | _ :: _, x :: _, 0, _, h, e => by cases Option.some.inj e; exact ⟨x, rfl, h.1⟩
  | _ :: _, _ :: _, i + 1, _, h, e => Al.get (i := i) h.2 e
theorem Al.drop1 : ∀ {as : List Addr} {xs : List α}, Al R as xs → Al R (as.drop 1) xs.tail
  | [], [], _ => True.intro
  | [], _ :: _, h => h.elim
  | _ :: _, [], h => h.elim
  | _ :: _, _ :: _, h => h.2
theorem Al.one {a : Addr} {x : α} (h : R a x) : Al R [a] [x] := ⟨h, True.intro⟩
end
/-- a new list of ints, apart from C -/
def RowB (H0 H : Hp) (C : Addr) (a : Addr) (r : List Int) : Prop := H a = some (LI r) ∧ H0 a = none ∧ a ≠ C
def RowF (H0 H : Hp) (a : Addr) (r : List Int) : Prop := H a = some (LI r) ∧ H0 a = none
theorem RowB.keep {H0 H H' : Hp} {C a : Addr} {r : List Int} (s : SameBut C H H') (h : RowB H0 H C a r) : RowB H0 H' C a r := ⟨s _ _ h.2.2 h.1, h.2⟩
theorem RowF.keep {H0 H H' : Hp} {a : Addr} {r : List Int} (s : Same H H') (h : RowF H0 H a r) : RowF H0 H' a r := ⟨s _ _ h.1, h.2⟩
theorem RowB.toF {H0 H : Hp} {C a : Addr} {r : List Int} (h : RowB H0 H C a r) : RowF H0 H a r := ⟨h.1, h.2.1⟩
structure Ln where
  p : Int
  c : Int
  as : List Int
/-- a line, its tuple and its list new -/
def LineF (H0 H : Hp) (a : Addr) (l : Ln) : Prop := ∃ b, H a = some (.tup [.int l.p, .int l.c, .ref b]) ∧ H b = some (LI l.as) ∧ H0 a = none ∧ H0 b = none
def LineB (H0 H : Hp) (B : Addr) (a : Addr) (l : Ln) : Prop := ∃ b, H a = some (.tup [.int l.p, .int l.c, .ref b]) ∧ H b = some (LI l.as) ∧ H0 a = none ∧ H0 b = none ∧ a ≠ B ∧ b ≠ B
theorem LineB.keep {H0 H H' : Hp} {B a : Addr} {l : Ln} (s : SameBut B H H') (h : LineB H0 H B a l) : LineB H0 H' B a l := by
  obtain ⟨b, h1, h2, h3, h4, h5, h6⟩ := h
  exact ⟨b, s _ _ h5 h1, s _ _ h6 h2, h3, h4, h5, h6⟩
theorem LineB.toF {H0 H : Hp} {B a : Addr} {l : Ln} (h : LineB H0 H B a l) : LineF H0 H a l := by
  obtain ⟨b, h1, h2, h3, h4, _⟩ := h
  exact ⟨b, h1, h2, h3, h4⟩
theorem LineF.toB {H0 H1 H : Hp} {B a : Addr} {l : Ln} (h : LineF H1 H a l) (f : ∀ b, H1 b = none → H0 b = none) (hB : H1 B ≠ none) : LineB H0 H B a l := by
  obtain ⟨b, h1, h2, h3, h4⟩ := h
  exact ⟨b, h1, h2, f _ h3, f _ h4, fun z => hB (by rw [← z]; exact h3), fun z => hB (by rw [← z]; exact h4)⟩
def LinesF (H0 H : Hp) (q : Addr) (ls : List Ln) : Prop := ∃ as : List Addr, H q = some (.lst (as.map V.ref)) ∧ Al (LineF H0 H) as ls
def isAdd (os : List Ofr) (p : Int) (i : Nat) : Bool := match os[i]? with
  | some (.add _ _ k) => decide (k = p)
  | _ => false
def addsN (os : List Ofr) (p : Int) (n : Nat) : List Int := ((List.range n).filter (isAdd os p)).map fun (i : Nat) => (i : Int)
def addsM (os : List Ofr) (p : Int) : List Int := addsN os p os.length
theorem addsN_len (os : List Ofr) (p : Int) (n : Nat) : (addsN os p n).length ≤ n := by
  unfold addsN
  rw [List.length_map]
  exact Nat.le_trans (List.length_filter_le _ _) (by rw [List.length_range]; exact Nat.le_refl _)
theorem addsN_yes {os : List Ofr} {p : Int} {n : Nat} (h : isAdd os p n = true) : addsN os p (n + 1) = addsN os p n ++ [(n : Int)] := by
  unfold addsN
  rw [List.range_succ, List.filter_append, List.map_append]
  simp [h]
theorem addsN_no {os : List Ofr} {p : Int} {n : Nat} (h : isAdd os p n = false) : addsN os p (n + 1) = addsN os p n := by
  unfold addsN
  rw [List.range_succ, List.filter_append, List.map_append]
  simp [h]
def choicesM : List Int → List (List Int)
  | [] => [[]]
  | p :: ps => ([[]] ++ (choicesM ps).map (p :: ·)) ++ (choicesM ps).tail
theorem choicesM_len : ∀ ps : List Int, (choicesM ps).length = 2 ^ ps.length
  | [] => rfl
  | p :: ps => by
    have ih := choicesM_len ps
    have pos : 0 < 2 ^ ps.length := Nat.pow_pos (by decide)
    show (([[]] ++ (choicesM ps).map (p :: ·)) ++ (choicesM ps).tail).length = 2 ^ (ps.length + 1)
    rw [List.length_append, List.length_append, List.length_map, List.length_tail, ih, Nat.pow_succ]
    show 1 + 2 ^ ps.length + (2 ^ ps.length - 1) = _
    omega
theorem choicesM_le {ps : List Int} (h : ps.length ≤ 8) : (choicesM ps).length ≤ 256 := by
  rw [choicesM_len]
  exact Nat.le_trans (Nat.pow_le_pow_right (by decide) h) (by decide)
def linesAtM (os : List Ofr) (p : Nat) : List Ln := match os[p]? with
  | some (.pack _ _) => (choicesM (addsM os p)).map fun c => ⟨p, 1, c⟩
  | some (.many _ _) => (List.range 12).map fun i => ⟨p, 1 + (i : Nat), []⟩
  | _ => []
def linesM (os : List Ofr) : List Ln := (List.range os.length).flatMap (linesAtM os)
theorem linesAtM_len {os : List Ofr} (h : os.length ≤ 8) (p : Nat) : (linesAtM os p).length ≤ 256 := by
  unfold linesAtM
  split
  · rw [List.length_map]
    exact choicesM_le (Nat.le_trans (addsN_len _ _ _) h)
  · rw [List.length_map, List.length_range]
    decide
  · decide
theorem linesN_len {os : List Ofr} (h : os.length ≤ 8) : ∀ n : Nat, ((List.range n).flatMap (linesAtM os)).length ≤ n * 256
  | 0 => by simp
  | n + 1 => by
    have ih := linesN_len h n
    have := linesAtM_len h n
    rw [List.range_succ, List.flatMap_append, List.length_append, List.flatMap_singleton]
    omega
theorem OfrAt.same {H H' : Hp} (s : Same H H') {a : Addr} : ∀ {o : Ofr}, OfrAt H a o → OfrAt H' a o
  | .pack c p, ⟨b, h1, h2⟩ => ⟨b, s _ _ h1, s _ _ h2⟩
  | .many c ts, ⟨b, t, h1, h2, us, h3, h4, h5⟩ => ⟨b, t, s _ _ h1, s _ _ h2, us, s _ _ h3, h4, fun i u t a b => s _ _ (h5 i u t a b)⟩
  | .add c p k, ⟨b, h1, h2⟩ => ⟨b, s _ _ h1, s _ _ h2⟩
theorem ShopAt.same {H H' : Hp} (s : Same H H') {a : Addr} {os : List Ofr} (h : ShopAt H a os) : ShopAt H' a os := by
  obtain ⟨vs, h1, h2, h3⟩ := h
  exact ⟨vs, s _ _ h1, h2, fun i v o a b => (h3 i v o a b).same s⟩
/-! ### lines: what they hold and cost, as lists -/
def togM (a b : List Int) : List Int := List.zipWith (· + ·) a b
theorem togM_get {a b : List Int} {i : Nat} {x y : Int} (h : a[i]? = some x) (h2 : b[i]? = some y) : (togM a b)[i]? = some (x + y) := by
  unfold togM
  rw [List.getElem?_zipWith, h, h2]
theorem togM_len (a b : List Int) : (togM a b).length = min a.length b.length := by
  unfold togM
  rw [List.length_zipWith]
def contAt (os : List Ofr) (x : Int) : List Int := match os[x.toNat]? with
  | some o => o.cont
  | none => []
def contM (os : List Ofr) (l : Ln) : List Int := l.as.foldl (fun acc x => togM acc (contAt os x)) ((contAt os l.p).map (l.c * ·))
def pieceL (ts : List (Int × Int)) (c : Int) : List Int := (ts.filter fun t => decide (t.1 ≤ c)).map (·.2)
def pieceM (ts : List (Int × Int)) (c : Int) : Int := (pieceL ts c).getLastD 0
def addPr (os : List Ofr) (x : Int) : Int := match os[x.toNat]? with
  | some (.add _ p _) => p
  | some (.pack _ p) => p
  | _ => 0
def priceM (os : List Ofr) (l : Ln) : Int := match os[l.p.toNat]? with
  | some (.many _ ts) => l.c * pieceM ts l.c
  | some (.pack _ p) => p + (l.as.map (addPr os)).sum
  | _ => 0
/-- l is a line of os -/
def LineOk (os : List Ofr) (l : Ln) : Prop := ∃ p : Nat, l.p = (p : Int) ∧ ((∃ c ts, os[p]? = some (.many c ts) ∧ GoodT ts ∧ 1 ≤ l.c ∧ l.c ≤ 12 ∧ l.as = []) ∨
  (∃ c pr, os[p]? = some (.pack c pr) ∧ l.c = 1 ∧ l.as.length ≤ 8 ∧ ∀ x ∈ l.as, ∃ j : Nat, x = (j : Int) ∧ ∃ c' pr' k, os[j]? = some (.add c' pr' k)))
/-- contents are short, prices of adds within bounds -/
def Fit (os : List Ofr) : Prop := ∀ o ∈ os, o.cont.length ≤ 1000 ∧ ∀ c p k, o = .add c p k → -10000000000000000 ≤ p ∧ p ≤ 10000000000000000
def LineAt (H : Hp) (a : Addr) (l : Ln) : Prop := ∃ b, H a = some (.tup [.int l.p, .int l.c, .ref b]) ∧ H b = some (LI l.as)
theorem LineF.at {H0 H : Hp} {a : Addr} {l : Ln} (h : LineF H0 H a l) : LineAt H a l := by
  obtain ⟨b, h1, h2, _⟩ := h
  exact ⟨b, h1, h2⟩
theorem LineAt.ext {T : List Addr} {H H' : Hp} {a : Addr} {l : Ln} (e : Ext T H H') (h : LineAt H a l) : LineAt H' a l := by
  obtain ⟨b, h1, h2⟩ := h
  exact ⟨b, e.tup h1, e.lst h2⟩
theorem contAt_get {os : List Ofr} {j : Nat} {o : Ofr} (h : os[j]? = some o) : contAt os (j : Int) = o.cont := by
  unfold contAt
  rw [Int.toNat_natCast, h]
theorem pieceL_take {ts : List (Int × Int)} {c : Int} {i : Nat} {t : Int × Int} (h : ts[i]? = some t) : pieceL (ts.take (i + 1)) c = if t.1 ≤ c then pieceL (ts.take i) c ++ [t.2] else pieceL (ts.take i) c := by
  unfold pieceL
  rw [take_succ_at h, List.filter_append, List.map_append]
  by_cases z : t.1 ≤ c
  · rw [if_pos z]
    simp [z]
  · rw [if_neg z]
    simp [z]
/-! ### _law_pop -/
abbrev s_law_pop : Stmt := topS 29
abbrev N_law_pop : List Str := ["_law_draws_here"]
theorem sc_law_pop : FnScope N_law_pop ["_law_draws_here"] (defScope s_law_pop) := ⟨rfl, rfl, rfl, by decide +kernel, rfl, by decide +kernel, by decide +kernel⟩

def sp_pop : Sp := fun vs H Q _ => ∃ (a : Addr) (ns : List Int), vs = [.ref a] ∧ H a = some (LI ns) ∧ ∀ H', SameBut a H H' → H' a = some (LI ns.tail) → Q (.int (ns.headD 0)) H'
section
variable {P : Program} {w : World} {K : PySem.W.Frag} {mg : Str → Option Value} {base : Heap}
theorem ok_pop {f : Addr} {fd : FuncData} {k : Nat} (D : Def K mg "_law_pop" s_law_pop ["_law_draws_here"] f fd) : FnOk P w K mg base CX0 (k + 1) f fd ["_law_draws_here"] sp_pop := by
  refine D.F.ok sc_law_pop (fun vs H Q E h => ?_) (fun cdv A outer s H vs Q E hr h => ?_)
  · obtain ⟨a, ns, rfl, _⟩ := h
    rfl
  · obtain ⟨a, ns, rfl, ha, q⟩ := h
    refine ⟨_, (pss_cons (ps_if (pt_cmpR (op_eqD hr.units) (pv 0) (pe_lst pa_nil) (nomark _))
   (pss_one (ps_ret pe_int))
   pss_nil)
  (pss_one (ps_ret (pe_bm PySem.F.plainAttrs_list PySem.F.slot_list_pop PySem.F.type_list_pop mt_popAt (pv 0) (pa_cons pe_int pa_nil))))), ?_⟩
    refine ⟨.ref a, rfl, Nat.zero_le _, fun p np => ?_⟩
    have ne : a ≠ p := ne_of_none ha np
    have ha1 : upd H p (.lst []) a = some (LI ns) := by rw [upd_ne ne]; exact ha
    have s1 : SameBut a H (upd H p (.lst [])) := .of (same_upd np)
    refine ⟨_, _, dp_ints (SqL.of ha1), dp_ints (ns := []) (SqL.of upd_same), shaped_ints _, shaped_ints _, _, rfl, ite2 (fun e => ?_) (fun e => ?_)⟩
    · rw [eqv_ints] at e
      have e2 : ns = [] := of_decide_eq_true e
      subst e2
      exact q _ s1 ha1
    · rw [eqv_ints] at e
      cases ns with
      | nil => exact absurd (decide_eq_true rfl) e
      | cons n r =>
        refine ⟨.ref a, rfl, .inl ⟨rfl, _, SqL.of ha1⟩, a, _, 0, 0, .int n, rfl, rfl, ha1, by decide, by decide, ?_, rfl, ?_⟩
        · rw [List.length_map, List.length_cons]
          exact (ixN_seq (ixN_nat (Nat.succ_pos _))).1
        · exact q _ (s1.trans .upd) upd_same
end
/-! ### _law_cases -/
abbrev s_law_cases : Stmt := topS 31
abbrev N_law_cases : List Str := ["_law_want_here", "_law_found", "_law_number"]
theorem sc_law_cases : FnScope N_law_cases ["_law_want_here"] (defScope s_law_cases) := ⟨rfl, rfl, rfl, by decide +kernel, rfl, by decide +kernel, by decide +kernel⟩

def casesM (ws : List Int) : Int := ws.foldl (fun p w => p * (w + 1)) 1
theorem casesM_take {ws : List Int} {i : Nat} {x : Int} (h : ws[i]? = some x) : casesM (ws.take (i + 1)) = casesM (ws.take i) * (x + 1) := by
  unfold casesM
  rw [take_succ_at h, List.foldl_append]
  rfl
def sp_cases (K : PySem.W.Frag) : Sp := fun vs H Q _ => ∃ (a : Addr) (ws : List Int), vs = [.ref a] ∧ SqL K H a (ws.map V.int) ∧ (∀ w ∈ ws, -1000000 ≤ w ∧ w ≤ 1000000) ∧ Q (.int (casesM ws)) H
section
variable {P : Program} {w : World} {K : PySem.W.Frag} {mg : Str → Option Value} {base : Heap}
theorem ok_cases {f : Addr} {fd : FuncData} {k : Nat} (D : Def K mg "_law_cases" s_law_cases ["_law_want_here"] f fd) : FnOk P w K mg base CX0 (k + 1) f fd ["_law_want_here"] (sp_cases K) := by
  refine D.F.ok sc_law_cases (fun vs H Q E h => ?_) (fun cdv A outer s H vs Q E hr h => ?_)
  · obtain ⟨a, ns, rfl, _⟩ := h
    rfl
  · obtain ⟨a, ws, rfl, ha, hw, q⟩ := h
    refine ⟨_, (pss_cons (ps_set (i := 1) sc_law_cases.nd rfl (Or.inl rfl) pe_int)
  (pss_cons (ps_for PassesOwn.never rfl (pi_list (pv 0)) (pg_name (i := 2) sc_law_cases.nd rfl (Or.inl rfl))
   (pss_one (ps_set (i := 1) sc_law_cases.nd rfl (Or.inl rfl) (pe_op op_mul (pv 1) (pe_op op_add (pv 2) pe_int)))))
  (pss_one (ps_ret (pv 1))))), ?_⟩
    refine ⟨.ref a, rfl, a, rfl, ⟨_, ha⟩, for_list (xs := ws.map V.int) (fun i σ H' => ∃ y, σ = [some (.ref a), some (.int (casesM (ws.take i))), y] ∧ H' = H) ⟨none, rfl, rfl⟩ (fun i σ H' _ hp => ?_) (fun i x σ H' hx hp => ?_) (fun σ H' hp => ?_)⟩
    · obtain ⟨y, _, rfl⟩ := hp
      exact ha
    · obtain ⟨y, rfl, rfl⟩ := hp
      obtain ⟨n, hn, rfl⟩ := of_get_ints hx
      have b := hw n (List.mem_of_getElem? hn)
      refine ⟨_, rfl, _, rfl, _, _, rfl, rfl, _, _, rfl, rfl, .inr ⟨by omega, by omega⟩, some (.int n), ?_, rfl⟩
      rw [casesM_take hn]
      rfl
    · obtain ⟨y, rfl, rfl⟩ := hp
      refine ⟨_, rfl, ?_⟩
      rw [List.length_map, List.take_length]
      exact q
end
/-! ### _law_draws -/
abbrev s_law_draws : Stmt := topS 28
abbrev N_law_draws : List Str := ["_law_script", "_law_turn", "_law_many", "_law_cells", "_law_found", "_law_k", "_law_left", "_law_place", "_law_number", "_law_at", "_law_cell"]
theorem sc_law_draws : FnScope N_law_draws ["_law_script", "_law_turn", "_law_many"] (defScope s_law_draws) := ⟨rfl, rfl, rfl, by decide +kernel, rfl, by decide +kernel, by decide +kernel⟩

theorem cut_to (ns : List Int) (k : Nat) : cutV (ns.map V.int) none (some (k : Int)) = (ns.take k).map V.int := by
  unfold cutV
  rw [HT.sIx_nat, HT.sIx_none, List.drop_zero, Nat.sub_zero, List.map_take]
  exact (List.take_eq_take_iff).mpr (by omega)
def sp_draws (K : PySem.W.Frag) : Sp := fun vs H Q _ => ∃ (a : Addr) (ns : List Int) (t m : Nat), vs = [.ref a, .int t, .int m] ∧ SqL K H a (ns.map V.int) ∧ ns.length ≤ 1000 ∧ t ≤ 1000 ∧ m ≤ 1000 ∧
  ∀ H' p ds, Same H H' → H p = none → H' p = some (LI ds) → Q (.ref p) H'
section
variable {P : Program} {w : World} {K : PySem.W.Frag} {mg : Str → Option Value} {base : Heap}
theorem ok_draws {f : Addr} {fd : FuncData} {k : Nat} (M : Names mg) (D : Def K mg "_law_draws" s_law_draws ["_law_script", "_law_turn", "_law_many"] f fd) :
    FnOk P w K mg base CX0 (k + 1) f fd ["_law_script", "_law_turn", "_law_many"] (sp_draws K) := by
  refine D.F.ok sc_law_draws (fun vs H Q E h => ?_) (fun cdv A outer s H vs Q E hr h => ?_)
  · obtain ⟨a, ns, t, m, rfl, _⟩ := h
    rfl
  · obtain ⟨a, ns, t, m, rfl, hS, hl, ht, hm, q⟩ := h
    refine ⟨_, (pss_cons (ps_set (i := 3) sc_law_draws.nd rfl (Or.inl rfl) (pe_op op_cat (pe_slice sl_list (pv 0) po_none (po_some pe_int)) (pe_lst (pa_cons (pv 1) pa_nil))))
  (pss_cons (ps_set (i := 4) sc_law_draws.nd rfl (Or.inl rfl) (pe_lst pa_nil))
  (pss_cons (ps_if (pt_cmpR op_eq (pe_op op_mod (pe_op op_fdiv (pe_ix ix_list (pv 3) pe_int (fun _ _ => rfl)) pe_int) pe_int) pe_int (nomark _))
   (pss_cons (ps_setLc (i := 6) (own := [("_law_cell", 10)]) (by rfl) sc_law_draws.nd rfl rfl (sw_true rfl rfl rfl (by decide +kernel)) (pi_list (pv 3)) (blkOk_by (own := [("_law_cell", 10)]) (N := N_law_draws) (sc := defScope s_law_draws) (by decide +kernel)) (fun _ _ _ _ _ => (pg_name (i := 10) sc_law_draws.nd rfl (Or.inl rfl))) (fun _ _ _ _ _ => pts_nil) (fun _ _ _ _ _ => (pe_op op_fdiv (pv 10) pe_int)))
  (pss_cons (ps_for PassesOwn.never rfl (pi_range1 (by rfl) M.range (pa_cons (pe_op op_add (pv 1) (pv 2)) pa_nil)) (pg_name (i := 5) sc_law_draws.nd rfl (Or.inl rfl))
   (pss_cons (ps_set (i := 9) sc_law_draws.nd rfl (Or.inl rfl) (pe_op op_mod (pv 5) (pe_callB call_len_seq (by rfl) M.len (by decide +kernel) (pa_cons (pv 6) pa_nil))))
  (pss_cons (ps_if (pt_cmpR op_ge (pv 5) (pv 1) (nomark _))
   (pss_one (ps_expr (pe_bm PySem.F.plainAttrs_list PySem.F.slot_list_append PySem.F.type_list_append mt_append (pv 4) (pa_cons (pe_op op_mod (pe_ix ix_list (pv 6) (pv 9) (fun _ _ => rfl)) pe_int) pa_nil))))
   pss_nil)
  (pss_one (ps_asg (pe_op op_fdivW (pe_ix ix_list (pv 6) (pv 9) (fun _ _ => rfl)) pe_int) (pg_sub (pv 6) (pv 9) set_list))))))
  (pss_one (ps_ret (pv 4)))))
   pss_nil)
  (pss_cons (ps_for PassesOwn.never rfl (pi_range1 (by rfl) M.range (pa_cons (pv 2) pa_nil)) (pg_name (i := 5) sc_law_draws.nd rfl (Or.inl rfl))
   (pss_cons (ps_set (i := 7) sc_law_draws.nd rfl (Or.inl rfl) (pe_op op_add (pe_op op_mul (pe_op op_mul (pe_op op_add (pv 5) (pv 1)) (pe_op op_add (pv 5) (pv 1))) pe_int) pe_int))
  (pss_cons (ps_set (i := 8) sc_law_draws.nd rfl (Or.inl rfl) (pe_op op_mod (pe_op op_mul (pe_op op_add (pe_op op_mod (pe_ix ix_list (pv 3) (pe_op op_mod (pv 5) (pe_callB call_len_seq (by rfl) M.len (by decide +kernel) (pa_cons (pv 3) pa_nil))) (fun _ _ => rfl)) pe_int) (pv 7)) pe_int) pe_int))
  (pss_cons (ps_set (i := 8) sc_law_draws.nd rfl (Or.inl rfl) (pe_op op_mod (pe_op op_add (pe_op op_mul (pv 8) (pv 8)) (pe_op op_mul pe_int (pv 5))) pe_int))
  (pss_one (ps_expr (pe_bm PySem.F.plainAttrs_list PySem.F.slot_list_append PySem.F.type_list_append mt_append (pv 4) (pa_cons (pe_op op_mod (pe_op op_mul (pv 8) (pv 8)) pe_int) pa_nil))))))))
  (pss_one (ps_ret (pv 4))))))), ?_⟩
    refine ⟨.ref a, rfl, 63, rfl, a, ns.map V.int, rfl, hS, fun c nc => ?_⟩
    refine ⟨.int t, rfl, by show 1 ≤ sizeLine; decide, fun u nu => ?_⟩
    have hcu : c ≠ u := ne_of_none upd_same nu
    have hc : (upd (upd H c (.lst (cutV (ns.map V.int) none (some 63)))) u (.lst [.int (t : Int)])) c = some (.lst (cutV (ns.map V.int) none (some 63))) := by
      rw [upd_ne hcu]
      exact upd_same
    have hlen := cutV_length (ns.map V.int) none (some 63)
    rw [List.length_map] at hlen
    refine ⟨c, u, _, _, rfl, rfl, hc, upd_same, szL (by rw [show ([V.int (t : Int)] : List V).length = 1 from rfl]; omega), fun e ne => ?_⟩
    obtain ⟨cs, ecs, hcs1, hcs2⟩ : ∃ cs : List Int, cutV (ns.map V.int) none (some 63) ++ [V.int (t : Int)] = cs.map V.int ∧ 0 < cs.length ∧ cs.length ≤ 2000 := by
      refine ⟨ns.take 63 ++ [(t : Int)], ?_, ?_, ?_⟩
      · rw [show (63 : Int) = ((63 : Nat) : Int) from rfl, cut_to, List.map_append]
        rfl
      · rw [List.length_append]
        exact Nat.succ_pos _
      · rw [List.length_append, List.length_take, List.length_singleton]
        omega
    have s1 : Same H (upd (upd (upd H c (.lst (cutV (ns.map V.int) none (some 63)))) u (.lst [.int (t : Int)])) e (.lst (cutV (ns.map V.int) none (some 63) ++ [.int (t : Int)]))) :=
      ((same_upd nc).trans (same_upd nu)).trans (same_upd ne)
    have he1 : (upd (upd (upd H c (.lst (cutV (ns.map V.int) none (some 63)))) u (.lst [.int (t : Int)])) e (.lst (cutV (ns.map V.int) none (some 63) ++ [.int (t : Int)]))) e = some (LI cs) := by
      rw [upd_same, ecs]
    generalize (upd (upd (upd H c (.lst (cutV (ns.map V.int) none (some 63)))) u (.lst [.int (t : Int)])) e (.lst (cutV (ns.map V.int) none (some 63) ++ [.int (t : Int)]))) = H1 at s1 he1 ⊢
    -- found = []
    refine ⟨Nat.zero_le _, fun o no => ?_⟩
    have hoe : e ≠ o := ne_of_none he1 no
    have s2 : Same H (upd H1 o (.lst [])) := s1.trans (same_upd no)
    have noH : H o = none := s1.free no
    have he2 : (upd H1 o (.lst [])) e = some (LI cs) := by rw [upd_ne hoe]; exact he1
    have ho2 : (upd H1 o (.lst [])) o = some (LI []) := upd_same
    generalize (upd H1 o (.lst [])) = H2 at s2 he2 ho2 ⊢
    -- cells[0] // 50000 % 2 == 1
    refine ⟨.ref e, rfl, e, _, 0, .int cs[0], rfl, rfl, SqL.of he2, atI_nat (j := 0) (getD_ints hcs1), _, _, rfl, rfl, ⟨by decide, by decide⟩, _, _, rfl, rfl, (by show (0 : Int) < _; decide), rfl, _, rfl, ite2 (fun _ => ?_) (fun _ => ?_)⟩
    · -- left = [cell // 100000 for cell in cells]
      refine ⟨.ref e, rfl, e, rfl, ⟨_, SqL.of he2⟩, fun B nB => lc_list (xs := cs.map V.int) (fun i H' => Same H2 H' ∧ ∃ ls : List Int, H' B = some (LI ls) ∧ ls.length = i) ⟨same_upd nB, [], upd_same, rfl⟩ (fun i H' _ hp => SqL.of (hp.1 _ _ he2)) (fun i x H' hx hp => ?_) (fun H3 hp => ?_)⟩
      · obtain ⟨s3, ls, hB, hls⟩ := hp
        obtain ⟨n, hn, rfl⟩ := of_get_ints hx
        have hi : i < cs.length := (List.getElem?_eq_some_iff.mp hn).1
        refine ⟨rfl, _, rfl, _, _, rfl, rfl, ⟨by decide, by decide⟩, _, hB, szL' (by rw [List.length_map]; omega), sm_new s3 nB, ls ++ [n / 100000], ?_, by rw [List.length_append, hls]; rfl⟩
        exact at_app
      · obtain ⟨s3, ls, hB, hls⟩ := hp
        rw [List.length_map] at hls
        have s3' := s2.trans s3
        have ho3 := s3 _ _ ho2
        have noB : o ≠ B := ne_of_none ho2 nB
        have nBH : H B = none := s2.free nB
        -- for k in range(turn + many)
        refine ⟨_, rfl, _, rfl, _, _, rfl, rfl, _, rfl, by omega, by omega, for_range (n := ((t : Int) + (m : Int)).toNat) (fun i σ H' => ∃ y5 y9, σ = [some (.ref a), some (.int t), some (.int m), some (.ref e), some (.ref o), y5, some (.ref B), none, none, y9, none] ∧ Same H H' ∧
          (∃ ds : List Int, H' o = some (LI ds) ∧ ds.length ≤ i) ∧ ∃ ls : List Int, H' B = some (LI ls) ∧ ls.length = cs.length) ⟨none, none, rfl, s3', ⟨[], ho3, Nat.zero_le _⟩, ls, hB, hls⟩ (fun i σ H4 hi hp => ?_) (fun σ H4 hp => ?_)⟩
        · obtain ⟨y5, y9, rfl, s4, ⟨ds, ho4, hds⟩, ls, hB4, hls⟩ := hp
          obtain ⟨j, hj, ej⟩ := mod_at (i := (0 : Int) + (i : Nat)) (n := (ls.map V.int).length) (by rw [List.length_map]; omega)
          rw [List.length_map] at hj
          refine ⟨_, rfl, _, rfl, B, _, rfl, .inl (SqL.of hB4), _, _, rfl, rfl, by rw [List.length_map]; omega, ?_⟩
          refine ⟨_, rfl, _, rfl, _, _, rfl, rfl, _, rfl, ite2 (fun _ => ?_) (fun _ => ?_)⟩
          · refine ⟨_, rfl, .inl ⟨rfl, _, SqL.of ho4⟩, _, rfl, _, rfl, B, _, _, _, rfl, rfl, SqL.of hB4, at_of ej (getD_ints hj), _, _, rfl, rfl, (by show (0 : Int) < _; decide), o, _, _, rfl, rfl, ho4, szL' (by rw [List.length_map]; omega), ?_⟩
            have hB5 : upd H4 o (.lst (ds.map V.int ++ [V.int (ls[j] % 2147483587)])) B = some (LI ls) := by rw [upd_ne noB.symm]; exact hB4
            refine ⟨_, rfl, _, rfl, B, _, _, _, rfl, rfl, SqL.of hB5, at_of ej (getD_ints hj), _, _, rfl, rfl, wide_div (b := 32) (by decide) (by decide) (by decide) (by decide), _, rfl, _, rfl, B, _, _, j, rfl, rfl, hB5, by rw [ej, List.length_map]; exact ixN_nat hj, ?_⟩
            refine ⟨_, _, rfl, sm_new (sm_new s4 noH) nBH, ⟨ds ++ [ls[j] % 2147483587], ?_, by rw [List.length_append, List.length_singleton]; omega⟩, ls.set j (ls[j] / 2147483587), ?_, by rw [List.length_set]; exact hls⟩
            · rw [upd_ne noB]
              exact at_app
            · exact at_set
          · refine ⟨_, rfl, _, rfl, B, _, _, _, rfl, rfl, SqL.of hB4, at_of ej (getD_ints hj), _, _, rfl, rfl, wide_div (b := 32) (by decide) (by decide) (by decide) (by decide), _, rfl, _, rfl, B, _, _, j, rfl, rfl, hB4, by rw [ej, List.length_map]; exact ixN_nat hj, ?_⟩
            refine ⟨_, _, rfl, sm_new s4 nBH, ⟨ds, ?_, by omega⟩, ls.set j (ls[j] / 2147483587), ?_, by rw [List.length_set]; exact hls⟩
            · rw [upd_ne noB]
              exact ho4
            · exact at_set
        · obtain ⟨y5, y9, rfl, s4, ⟨ds, ho4, hds⟩, _⟩ := hp
          exact ⟨_, rfl, q H4 o ds s4 noH ho4⟩
    · -- for k in range(many)
      refine ⟨_, rfl, _, rfl, by omega, by omega, for_range (n := (m : Int).toNat) (fun i σ H' => ∃ y5 y7 y8, σ = [some (.ref a), some (.int t), some (.int m), some (.ref e), some (.ref o), y5, none, y7, y8, none, none] ∧ Same H H' ∧ H' e = some (LI cs) ∧
        (∃ ds : List Int, H' o = some (LI ds) ∧ ds.length ≤ i)) ⟨none, none, none, rfl, s2, he2, [], ho2, Nat.zero_le _⟩ (fun i σ H4 hi hp => ?_) (fun σ H4 hp => ?_)⟩
      · obtain ⟨y5, y7, y8, rfl, s4, he4, ds, ho4, hds⟩ := hp
        have hi2 : i < m := by omega
        obtain ⟨j, hj, ej⟩ := mod_at (i := (0 : Int) + (i : Nat)) (n := (cs.map V.int).length) (by rw [List.length_map]; omega)
        rw [List.length_map] at hj
        -- place
        refine ⟨_, rfl, _, rfl, _, _, rfl, rfl, _, rfl, _, rfl, _, _, rfl, rfl, _, _, rfl, rfl, .inl ⟨by omega, by omega⟩, _, _, rfl, rfl, .inr ⟨by decide, by decide⟩, _, _, rfl, rfl, ?_⟩
        -- number
        refine ⟨_, rfl, _, rfl, _, rfl, e, _, rfl, .inl (SqL.of he4), _, _, rfl, rfl, by rw [List.length_map]; omega, e, _, _, _, rfl, rfl, SqL.of he4, at_of ej (getD_ints hj), _, _, rfl, rfl, (by show (0 : Int) < _; decide), _, rfl, _, _, rfl, rfl, _, _, rfl, rfl, .inr ⟨by decide, by decide⟩, _, _, rfl, rfl, (by show (0 : Int) < _; decide), ?_⟩
        have mb : ∀ z : Int, -(2 ^ 64) < z % 2147483647 ∧ z % 2147483647 < 2 ^ 64 := fun z => by omega
        have mb2 : ∀ z : Int, -(2 ^ 64) < z % 2147483629 ∧ z % 2147483629 < 2 ^ 64 := fun z => by omega
        refine ⟨_, rfl, _, rfl, _, _, rfl, rfl, .inl (mb _), _, rfl, _, _, rfl, rfl, .inl ⟨by decide, by decide⟩, _, _, rfl, rfl, _, _, rfl, rfl, (by show (0 : Int) < _; decide), ?_⟩
        refine ⟨_, rfl, .inl ⟨rfl, _, SqL.of ho4⟩, _, rfl, _, rfl, _, _, rfl, rfl, .inl (mb2 _), _, _, rfl, rfl, (by show (0 : Int) < _; decide), o, _, _, rfl, rfl, ho4, szL' (by rw [List.length_map]; omega), ?_⟩
        refine ⟨_, _, _, rfl, sm_new s4 noH, ?_, _, at_app, by rw [List.length_append, List.length_singleton]; omega⟩
        rw [upd_ne hoe]
        exact he4
      · obtain ⟨y5, y7, y8, rfl, s4, _, ds, ho4, hds⟩ := hp
        exact ⟨_, rfl, q H4 o ds s4 noH ho4⟩
end
/-! ### _law_want -/
abbrev s_law_want : Stmt := topS 30
abbrev N_law_want : List Str := ["_law_draws_here", "_law_many", "_law_number", "_law_found", "_law_k"]
theorem sc_law_want : FnScope N_law_want ["_law_draws_here", "_law_many"] (defScope s_law_want) := ⟨rfl, rfl, rfl, by decide +kernel, rfl, by decide +kernel, by decide +kernel⟩

theorem menu8 {j : Nat} (h : j < 8) : ∃ v : Int, ([V.int 0, V.int 1, V.int 2, V.int 9, V.int 4, V.int 5, V.int 3, V.int 1] : List V)[j]? = some (.int v) ∧ 0 ≤ v ∧ v ≤ 9 :=
  match j, h with
  | 0, _ => ⟨0, rfl, by decide, by decide⟩
  | 1, _ => ⟨1, rfl, by decide, by decide⟩
  | 2, _ => ⟨2, rfl, by decide, by decide⟩
  | 3, _ => ⟨9, rfl, by decide, by decide⟩
  | 4, _ => ⟨4, rfl, by decide, by decide⟩
  | 5, _ => ⟨5, rfl, by decide, by decide⟩
  | 6, _ => ⟨3, rfl, by decide, by decide⟩
  | 7, _ => ⟨1, rfl, by decide, by decide⟩
theorem shl_ok {i : Nat} (h : i < 4) : (0 : Int) < 1 * 2 ^ (3 * (0 + (i : Int))).toNat ∧ (1 : Int) * 2 ^ (3 * (0 + (i : Int))).toNat < 1073741824 :=
  match i, h with
  | 0, _ => by decide
  | 1, _ => by decide
  | 2, _ => by decide
  | 3, _ => by decide
theorem first_at : ∀ {l : List Int} {x : Int}, x ∈ l → ∃ j : Nat, l[j]? = some x ∧ ∀ (m : Nat) y, m < j → l[m]? = some y → y ≠ x
  | a :: r, x, h => by
    by_cases e : a = x
    · subst e
      exact ⟨0, rfl, fun m y hm => absurd hm (Nat.not_lt_zero _)⟩
    · obtain ⟨j, h1, h2⟩ := first_at (l := r) ((List.mem_cons.mp h).resolve_left fun z => e z.symm)
      refine ⟨j + 1, h1, fun m y hm hy => ?_⟩
      cases m with
      | zero =>
        have : a = y := Option.some.inj hy
        rw [← this]
        exact e
      | succ m => exact h2 m y (by omega) hy
theorem casesM_zero : ∀ (ws : List Int) (p : Int), (∀ w ∈ ws, w = 0) → ws.foldl (fun p w => p * (w + 1)) p = p
  | [], _, _ => rfl
  | a :: r, p, h => by
    have e : a = 0 := h a List.mem_cons_self
    subst e
    show r.foldl (fun p w => p * (w + 1)) (p * (0 + 1)) = p
    rw [casesM_zero r _ fun w hw => h w (List.mem_cons_of_mem _ hw)]
    omega
theorem sum_nonneg : ∀ {ws : List Int}, (∀ w ∈ ws, 0 ≤ w) → 0 ≤ ws.sum
  | [], _ => by decide
  | a :: r, h => by
    have h1 := h a List.mem_cons_self
    have h2 := sum_nonneg (ws := r) fun w hw => h w (List.mem_cons_of_mem _ hw)
    rw [List.sum_cons]
    omega
theorem sum_get : ∀ {ws : List Int} {j : Nat} {x : Int}, (∀ w ∈ ws, 0 ≤ w) → ws[j]? = some x → x ≤ ws.sum
  | [], j, x, _, h => by simp at h
  | a :: r, 0, x, hh, h => by
    have e : a = x := Option.some.inj h
    have := sum_nonneg (ws := r) fun w hw => hh w (List.mem_cons_of_mem _ hw)
    rw [List.sum_cons]
    omega
  | a :: r, j + 1, x, hh, h => by
    have h1 := hh a List.mem_cons_self
    have h2 := sum_get (ws := r) (j := j) (x := x) (fun w hw => hh w (List.mem_cons_of_mem _ hw)) h
    rw [List.sum_cons]
    omega
def Small (ws : List Int) : Prop := ∀ w ∈ ws, 0 ≤ w ∧ w ≤ 9
theorem Small.app {ws : List Int} {n : Int} (h : Small ws) (h1 : 0 ≤ n) (h2 : n ≤ 9) : Small (ws ++ [n]) := fun w hw => by
  rcases List.mem_append.mp hw with z | z
  · exact h w z
  · rw [List.mem_singleton.mp z]
    exact ⟨h1, h2⟩
theorem Small.big {ws : List Int} (h : Small ws) : ∀ w ∈ ws, -1000000 ≤ w ∧ w ≤ 1000000 := fun w hw => by
  have := h w hw
  omega
def sp_want : Sp := fun vs H Q _ => ∃ (a : Addr) (ns : List Int) (m : Nat), vs = [.ref a, .int m] ∧ H a = some (LI ns) ∧ 1 ≤ m ∧ m ≤ 4 ∧
  ∀ H' p ws ns', SameBut a H H' → H p = none → p ≠ a → H' p = some (LI ws) → H' a = some (LI ns') → ws.length = m → Small ws → casesM ws ≤ 400 → Q (.ref p) H'
section
variable {P : Program} {w : World} {K : PySem.W.Frag} {mg : Str → Option Value} {base : Heap}
theorem ok_want {f fp fc : Addr} {fd fdp fdc : FuncData} {k : Nat} (M : Names mg) (D : Def K mg "_law_want" s_law_want ["_law_draws_here", "_law_many"] f fd) (D_law_pop : Def K mg "_law_pop" s_law_pop ["_law_draws_here"] fp fdp) (D_law_cases : Def K mg "_law_cases" s_law_cases ["_law_want_here"] fc fdc) :
    FnOk P w K mg base CX0 (k + 2) f fd ["_law_draws_here", "_law_many"] sp_want := by
  have G_law_pop : FnOk P w K mg base CX0 (k + 1) fp fdp ["_law_draws_here"] sp_pop := ok_pop D_law_pop
  have G_law_cases : FnOk P w K mg base CX0 (k + 1) fc fdc ["_law_want_here"] (sp_cases K) := ok_cases D_law_cases
  refine D.F.ok sc_law_want (fun vs H Q E h => ?_) (fun cdv A outer s H vs Q E hr h => ?_)
  · obtain ⟨a, ns, m, rfl, _⟩ := h
    rfl
  · obtain ⟨a, ns, m, rfl, ha, hm1, hm4, q⟩ := h
    refine ⟨_, (pss_cons (ps_set (i := 2) sc_law_want.nd rfl (Or.inr rfl) (pe_call G_law_pop hr (by rfl) D_law_pop.g D_law_pop.F.kp D_law_pop.b .nil pass0 (pa_cons (pv 0) pa_nil)))
  (pss_cons (ps_setLc (i := 3) (own := [("_law_k", 4)]) (by rfl) sc_law_want.nd rfl rfl (sw_true rfl rfl rfl (by decide +kernel)) (pi_range1 (by rfl) M.range (pa_cons (pv 1) pa_nil)) (blkOk_by (own := [("_law_k", 4)]) (N := N_law_want) (sc := defScope s_law_want) (by decide +kernel)) (fun _ _ _ _ _ => (pg_name (i := 4) sc_law_want.nd rfl (Or.inl rfl))) (fun _ _ _ _ _ => pts_nil) (fun _ _ _ _ _ => (pe_ix (ix_listK (K := K) rfl) (pe_lst (pa_cons pe_int (pa_cons pe_int (pa_cons pe_int (pa_cons pe_int (pa_cons pe_int (pa_cons pe_int (pa_cons pe_int (pa_cons pe_int pa_nil))))))))) (pe_op op_mod (pe_op op_fdiv (pv 2) (pe_op op_shl pe_int (pe_op op_mul pe_int (pv 4)))) pe_int) (fun _ _ => rfl))))
  (pss_cons (ps_if (pt_cmpR op_eq (pe_op op_mod (pe_op op_fdiv (pv 2) pe_int) pe_int) pe_int (nomark _))
   (pss_one (ps_setLc (i := 3) (own := [("_law_k", 4)]) (by rfl) sc_law_want.nd rfl rfl (sw_true rfl rfl rfl (by decide +kernel)) (pi_range1 (by rfl) M.range (pa_cons (pv 1) pa_nil)) (blkOk_by (own := [("_law_k", 4)]) (N := N_law_want) (sc := defScope s_law_want) (by decide +kernel)) (fun _ _ _ _ _ => (pg_name (i := 4) sc_law_want.nd rfl (Or.inl rfl))) (fun _ _ _ _ _ => pts_nil) (fun _ _ _ _ _ => (pe_op op_mod (pe_call G_law_pop hr (by rfl) D_law_pop.g D_law_pop.F.kp D_law_pop.b .nil pass0 (pa_cons (pv 0) pa_nil)) pe_int))))
   pss_nil)
  (pss_cons (ps_while PassesOwn.never (pt_cmpR op_gt (pe_call G_law_cases hr (by rfl) D_law_cases.g D_law_cases.F.kp D_law_cases.b .nil pass0 (pa_cons (pv 3) pa_nil)) pe_int (nomark _))
   (pss_one (ps_asg (pe_op op_sub (pe_callB (cr_max rfl) (by rfl) M.max (by decide +kernel) (pa_cons (pv 3) pa_nil)) pe_int) (pg_sub (pv 3) (pe_bm PySem.F.plainAttrs_list PySem.F.slot_list_index PySem.F.type_list_index mt_index (pv 3) (pa_cons (pe_callB (cr_max rfl) (by rfl) M.max (by decide +kernel) (pa_cons (pv 3) pa_nil)) pa_nil)) set_list))))
  (pss_one (ps_ret (pv 3))))))), ?_⟩
    -- number = pop(draws)
    refine ⟨.ref a, rfl, a, ns, rfl, ha, fun H1 s1 h1 => ?_⟩
    generalize ns.headD 0 = n0
    generalize ns.tail = ns1 at h1
    -- the menu
    refine ⟨_, rfl, _, rfl, by omega, by omega, fun B nB => lc_range (lo := 0) (n := (m : Int).toNat) (fun i H' => SameBut a H H' ∧ H' a = some (LI ns1) ∧ ∃ ws, H' B = some (LI ws) ∧ ws.length = i ∧ Small ws) ?_ (fun i H' hi hp => ?_) (fun H2 hp => ?_)⟩
    · have nBa : a ≠ B := ne_of_none h1 nB
      refine ⟨?_, ?_, [], upd_same, rfl, fun w hw => nomatch hw⟩
      · exact s1.new (s1.free nB (by rw [h1]; exact fun z => nomatch z))
      · rw [upd_ne nBa]
        exact h1
    · have nBa : a ≠ B := ne_of_none h1 nB
      have nBH : H B = none := s1.free nB (by rw [h1]; exact fun z => nomatch z)
      obtain ⟨s2, h2, ws, hB, hl, sm⟩ := hp
      have hi4 : i < 4 := by omega
      refine ⟨rfl, by show 8 ≤ sizeLine; decide, fun p np => ?_⟩
      have npB : B ≠ p := ne_of_none hB np
      have npa : a ≠ p := ne_of_none h2 np
      obtain ⟨j, hj, ej⟩ := mod_at (i := n0 / (1 * 2 ^ (3 * (0 + (i : Int))).toNat)) (n := 8) (by decide)
      obtain ⟨v, hv, hv1, hv2⟩ := menu8 hj
      refine ⟨_, rfl, _, rfl, _, _, rfl, rfl, .inl ⟨by decide, by decide⟩, _, _, rfl, rfl, ⟨by omega, by omega, by decide⟩, _, _, rfl, rfl, shl_ok hi4, _, _, rfl, rfl, (by show (0 : Int) < _; decide), p, _, _, _, rfl, rfl, SqL.of upd_same, at_of ej hv, ?_⟩
      have hB2 : (upd H' p (.lst [V.int 0, V.int 1, V.int 2, V.int 9, V.int 4, V.int 5, V.int 3, V.int 1])) B = some (LI ws) := by rw [upd_ne npB]; exact hB
      refine ⟨_, hB2, szL' (by rw [List.length_map]; omega), ?_, ?_, _, at_app, by rw [List.length_append, hl]; rfl, sm.app hv1 hv2⟩
      · exact (s2.new (s2.free np (by rw [h2]; exact fun z => nomatch z))).new nBH
      · rw [upd_ne nBa, upd_ne npa]
        exact h2
    · have nBa : a ≠ B := ne_of_none h1 nB
      have nBH : H B = none := s1.free nB (by rw [h1]; exact fun z => nomatch z)
      obtain ⟨s2, h2, ws, hB, hl, sm⟩ := hp
      -- the end: while and return, from any found list
      have fin : ∀ (L : Addr) (σ : L2.St) (H3 : Hp), σ = [some (.ref a), some (.int m), some (.int n0), some (.ref L), none] → H L = none → a ≠ L → SameBut a H H3 → (∃ ns3, H3 a = some (LI ns3)) → (∃ ws, H3 L = some (LI ws) ∧ ws.length = m ∧ Small ws) →
          ∃ W : Nat → L2.St → Hp → Prop, (∃ μ, W μ σ H3) ∧ ∀ μ σ H4, W μ σ H4 → ∃ ws, W μ σ H4 ∧ σ = [some (.ref a), some (.int m), some (.int n0), some (.ref L), none] ∧ SameBut a H H4 ∧ (∃ ns3, H4 a = some (LI ns3)) ∧ H4 L = some (LI ws) ∧ ws.length = m ∧ Small ws ∧ μ = ws.sum.toNat ∧
            ∀ ws' : List Int, ws'.length = m → Small ws' → ws'.sum < ws.sum → ∃ μ', μ' < μ ∧ W μ' σ (upd H4 L (LI ws')) := by
        intro L σ H3 eσ nL naL s3 h3 h4
        refine ⟨fun μ σ H4 => ∃ ws, σ = [some (.ref a), some (.int m), some (.int n0), some (.ref L), none] ∧ SameBut a H H4 ∧ (∃ ns3, H4 a = some (LI ns3)) ∧ H4 L = some (LI ws) ∧ ws.length = m ∧ Small ws ∧ μ = ws.sum.toNat, ?_, ?_⟩
        · obtain ⟨ws, e1, e2, e3⟩ := h4
          exact ⟨_, ws, eσ, s3, h3, e1, e2, e3, rfl⟩
        · intro μ σ H4 hW
          obtain ⟨ws, e1, e2, ⟨ns3, e3⟩, e4, e5, e6, e7⟩ := id hW
          refine ⟨ws, hW, e1, e2, ⟨ns3, e3⟩, e4, e5, e6, e7, fun ws' l1 l2 l3 => ⟨_, ?_, ws', e1, e2.new nL, ⟨ns3, ?_⟩, upd_same, l1, l2, rfl⟩⟩
          · have p1 : 0 ≤ ws'.sum := sum_nonneg fun w hw => (l2 w hw).1
            omega
          · rw [upd_ne naL]
            exact e3
      have body : ∀ (L : Addr) (H4 : Hp) (ws : List Int), H L = none → a ≠ L → SameBut a H H4 → (∃ ns3, H4 a = some (LI ns3)) → H4 L = some (LI ws) → ws.length = m → Small ws → casesM ws > 400 →
          ∀ mx : Int, mx ∈ ws → (∀ y, y ∈ ws → y ≤ mx) → ∃ j : Nat, ws[j]? = some mx ∧ (∀ (m' : Nat) (z' : V), m' < j → (ws.map V.int)[m']? = some z' → eqV z' (.int mx) = false) ∧ j < ws.length ∧ (ws.set j (mx - 1)).length = m ∧ Small (ws.set j (mx - 1)) ∧ (ws.set j (mx - 1)).sum < ws.sum := by
        intro L H4 ws nL naL s4 h3 h4 hl sm hc mx hmx hle
        obtain ⟨j, h1, h2⟩ := first_at hmx
        have pos : 1 ≤ mx := by
          rcases Int.lt_or_le mx 1 with z | z
          · have e : casesM ws = 1 := casesM_zero ws 1 fun w hw => by
              have a1 := hle w hw
              have a2 := sm w hw
              omega
            omega
          · exact z
        have b := sm mx hmx
        refine ⟨j, h1, fun m' z' hm hz => ?_, (List.getElem?_eq_some_iff.mp h1).1, by rw [List.length_set]; exact hl, fun w hw => ?_, ?_⟩
        · obtain ⟨y, hy, rfl⟩ := of_get_ints hz
          have := h2 m' y hm hy
          show (y == mx) = false
          exact beq_eq_false_iff_ne.mpr this
        · rcases List.mem_or_eq_of_mem_set hw with z | z
          · exact sm w z
          · omega
        · rw [sum_set h1]
          omega
      -- number // 4096 % 4 == 0
      refine ⟨_, rfl, _, _, rfl, rfl, ⟨by decide, by decide⟩, _, _, rfl, rfl, (by show (0 : Int) < _; decide), rfl, _, rfl, ite2 (fun _ => ?_) (fun _ => ?_)⟩
      · refine ⟨_, rfl, _, rfl, by omega, by omega, fun L nL => lc_range (lo := 0) (n := (m : Int).toNat) (fun i H' => SameBut a H H' ∧ (∃ ns3, H' a = some (LI ns3)) ∧ ∃ ws, H' L = some (LI ws) ∧ ws.length = i ∧ Small ws) ?_ (fun i H' hi hp => ?_) (fun H3 hp => ?_)⟩
        · have naL : a ≠ L := ne_of_none h2 nL
          refine ⟨s2.new (s2.free nL (by rw [h2]; exact fun z => nomatch z)), ⟨ns1, ?_⟩, [], upd_same, rfl, fun w hw => nomatch hw⟩
          rw [upd_ne naL]
          exact h2
        · have naL : a ≠ L := ne_of_none h2 nL
          have nLH : H L = none := s2.free nL (by rw [h2]; exact fun z => nomatch z)
          obtain ⟨s3, ⟨ns3, h3⟩, ws, hL, hl, sm⟩ := hp
          refine ⟨rfl, .ref a, rfl, a, ns3, rfl, h3, fun H5 s5 h5 => ⟨_, _, rfl, rfl, (by show (0 : Int) < _; decide), _, s5 L _ naL.symm hL, szL' (by rw [List.length_map]; omega), ?_⟩⟩
          refine ⟨(s3.trans s5).new nLH, ⟨_, by rw [upd_ne naL]; exact h5⟩, _, at_app, by rw [List.length_append, hl]; rfl, sm.app (by omega) (by omega)⟩
        · have naL : a ≠ L := ne_of_none h2 nL
          have nLH : H L = none := s2.free nL (by rw [h2]; exact fun z => nomatch z)
          obtain ⟨s3, h3, ws3, hL, hl3, sm3⟩ := hp
          obtain ⟨W, w0, hW⟩ := fin L _ H3 rfl nLH naL s3 h3 ⟨ws3, hL, hl3, sm3⟩
          refine ⟨W, w0, fun μ σ H4 w4 => ?_⟩
          obtain ⟨ws4, _, rfl, s4, ⟨ns4, h4⟩, hL4, hl4, sm4, eμ, step⟩ := hW μ σ H4 w4
          refine ⟨.ref L, rfl, L, ws4, rfl, SqL.of hL4, sm4.big, _, _, rfl, rfl, _, rfl, ite2 (fun c => ?_) (fun c => ?_)⟩
          · have c2 : casesM ws4 > 400 := of_decide_eq_true c
            refine ⟨fun σ' H' => σ' = [some (.ref a), some (.int m), some (.int n0), some (.ref L), none] ∧ ∃ ws' : List Int, ws'.length = m ∧ Small ws' ∧ ws'.sum < ws4.sum ∧ H' = upd H4 L (LI ws'), fun σ' H' hN => ?_, ?_⟩
            · obtain ⟨rfl, ws', l1, l2, l3, rfl⟩ := hN
              exact step ws' l1 l2 l3
            · refine ⟨_, rfl, L, ws4, rfl, SqL.of hL4, by omega, fun mx hmx hle => ⟨_, _, rfl, rfl, _, rfl, _, rfl, .inl ⟨rfl, _, SqL.of hL4⟩, _, rfl, L, ws4, rfl, SqL.of hL4, by omega, fun mx2 hmx2 hle2 => ?_⟩⟩
              have emx : mx2 = mx := Int.le_antisymm (hle mx2 hmx2) (hle2 mx hmx)
              subst emx
              obtain ⟨j, b1, b2, b3, b4, b5, b6⟩ := body L H4 ws4 nLH naL s4 ⟨ns4, h4⟩ hL4 hl4 sm4 c2 mx2 hmx hle
              refine ⟨L, _, _, j, _, rfl, rfl, SqL.of hL4, rfl, by simp [flatV], get_ints b1, by show (mx2 == mx2) = true; exact beq_self_eq_true _, b2, L, _, _, j, rfl, rfl, hL4, by rw [List.length_map]; exact ixN_nat b3, rfl, _, b4, b5, b6, ?_⟩
              rw [← li_set]
          · exact ⟨_, rfl, q H4 L ws4 ns4 s4 nLH naL.symm hL4 h4 hl4 sm4 (Int.not_lt.mp fun z => c (decide_eq_true z))⟩
      · obtain ⟨W, w0, hW⟩ := fin B _ H2 rfl nBH nBa s2 ⟨ns1, h2⟩ ⟨ws, hB, hl, sm⟩
        refine ⟨W, w0, fun μ σ H4 w4 => ?_⟩
        obtain ⟨ws4, _, rfl, s4, ⟨ns4, h4⟩, hL4, hl4, sm4, eμ, step⟩ := hW μ σ H4 w4
        refine ⟨.ref B, rfl, B, ws4, rfl, SqL.of hL4, sm4.big, _, _, rfl, rfl, _, rfl, ite2 (fun c => ?_) (fun c => ?_)⟩
        · have c2 : casesM ws4 > 400 := of_decide_eq_true c
          refine ⟨fun σ' H' => σ' = [some (.ref a), some (.int m), some (.int n0), some (.ref B), none] ∧ ∃ ws' : List Int, ws'.length = m ∧ Small ws' ∧ ws'.sum < ws4.sum ∧ H' = upd H4 B (LI ws'), fun σ' H' hN => ?_, ?_⟩
          · obtain ⟨rfl, ws', l1, l2, l3, rfl⟩ := hN
            exact step ws' l1 l2 l3
          · refine ⟨_, rfl, B, ws4, rfl, SqL.of hL4, by omega, fun mx hmx hle => ⟨_, _, rfl, rfl, _, rfl, _, rfl, .inl ⟨rfl, _, SqL.of hL4⟩, _, rfl, B, ws4, rfl, SqL.of hL4, by omega, fun mx2 hmx2 hle2 => ?_⟩⟩
            have emx : mx2 = mx := Int.le_antisymm (hle mx2 hmx2) (hle2 mx hmx)
            subst emx
            obtain ⟨j, b1, b2, b3, b4, b5, b6⟩ := body B H4 ws4 nBH nBa s4 ⟨ns4, h4⟩ hL4 hl4 sm4 c2 mx2 hmx hle
            refine ⟨B, _, _, j, _, rfl, rfl, SqL.of hL4, rfl, by simp [flatV], get_ints b1, by show (mx2 == mx2) = true; exact beq_self_eq_true _, b2, B, _, _, j, rfl, rfl, hL4, by rw [List.length_map]; exact ixN_nat b3, rfl, _, b4, b5, b6, ?_⟩
            rw [← li_set]
        · exact ⟨_, rfl, q H4 B ws4 ns4 s4 nBH nBa.symm hL4 h4 hl4 sm4 (Int.not_lt.mp fun z => c (decide_eq_true z))⟩
end
/-! ### tables through calls -/
theorem tabG_same {H H' : Hp} {T : Addr} (s : Same H H') (h : GxR.TabG H T) : GxR.TabG H' T := by
  obtain ⟨ps, h1, h2⟩ := h
  exact ⟨ps, s _ _ h1, h2⟩
theorem tabG_but {H H' : Hp} {T d : Addr} {xs : List V} (s : SameBut d H H') (hd : H d = some (.lst xs)) (h : GxR.TabG H T) : GxR.TabG H' T := by
  obtain ⟨ps, h1, h2⟩ := h
  exact ⟨ps, s _ _ (ne_of h1 hd (fun z => nomatch z)) h1, h2⟩
theorem tabbed_lst {H H' : Hp} {T a : Addr} {xs : List V} (t : GxR.Tabbed T H H') (hT : GxR.TabG H T) (h : H a = some (.lst xs)) : H' a = some (.lst xs) := by
  obtain ⟨ps, h1, h2⟩ := hT
  rw [t.2 a (ne_of h h1 (fun z => nomatch z))]
  exact h
theorem draw4 (x : Int) : ∃ m : Nat, 1 ≤ m ∧ m ≤ 4 ∧ 1 + x % 4 = (m : Int) := ⟨(1 + x % 4).toNat, by omega, by omega, by omega⟩
/-! ### a heap without one address; what is kept apart from tables -/
def cutH (d : Addr) (H : Hp) : Hp := fun b => if b = d then none else H b
section
variable {d : Addr} {H H' : Hp}
theorem cut_at {b : Addr} (h : b ≠ d) : cutH d H b = H b := if_neg h
theorem cut_put {b : Addr} {o : HO} (h : b ≠ d) (e : H b = some o) : cutH d H b = some o := by rw [cut_at h]; exact e
theorem cut_some {b : Addr} {o : HO} (h : cutH d H b = some o) : b ≠ d ∧ H b = some o := by
  unfold cutH at h
  by_cases e : b = d
  · rw [if_pos e] at h
    cases h
  · rw [if_neg e] at h
    exact ⟨e, h⟩
theorem cut_same (s : SameBut d H H') : Same (cutH d H) (cutH d H') := fun b o h => by
  obtain ⟨n, e⟩ := cut_some h
  exact cut_put n (s b o n e)
theorem cut_le : Same (cutH d H) H := fun _ _ h => (cut_some h).2
theorem cut_upd {u : Addr} {o : HO} (h : u ≠ d) : cutH d (upd H u o) = upd (cutH d H) u o := by
  funext b
  by_cases e : b = d
  · rw [e, upd_ne (fun z => h z.symm)]
    unfold cutH
    rw [if_pos rfl, if_pos rfl]
  · rw [cut_at e]
    by_cases e2 : b = u
    · rw [e2, upd_same, upd_same]
    · rw [upd_ne e2, upd_ne e2, cut_at e]
/-- all but tables stay -/
def Ke (H H' : Hp) : Prop := ∀ b o, H b = some o → (∀ ps, o ≠ .tbl ps) → H' b = some o
theorem Ke.refl (H : Hp) : Ke H H := fun _ _ e _ => e
theorem Ke.trans {H1 H2 : Hp} (a : Ke H H1) (b : Ke H1 H2) : Ke H H2 := fun c o e n => b c o (a c o e n) n
theorem Ke.of (s : Same H H') : Ke H H' := fun b o e _ => s b o e
theorem Ke.cut (a : Ke H H') : Ke (cutH d H) (cutH d H') := fun b o e n => by
  obtain ⟨n1, e1⟩ := cut_some e
  exact cut_put n1 (a b o e1 n)
theorem Ke.lst (a : Ke H H') {p : Addr} {xs : List V} (h : H p = some (.lst xs)) : H' p = some (.lst xs) := a _ _ h fun _ z => nomatch z
theorem Ke.tup (a : Ke H H') {p : Addr} {xs : List V} (h : H p = some (.tup xs)) : H' p = some (.tup xs) := a _ _ h fun _ z => nomatch z
theorem Ext.ke {T : List Addr} (e : Ext T H H') : Ke H H' := e.ext
theorem tb_same {T : List Addr} (s : Same H H') (h : Tb T H) : Tb T H' := fun t ht => tabG_same s (h t ht)
theorem tb_but {T : List Addr} {xs : List V} (s : SameBut d H H') (hd : H d = some (.lst xs)) (h : Tb T H) : Tb T H' := fun t ht => tabG_but s hd (h t ht)
theorem TiersAt.ke (e : Ke H H') {a : Addr} {ts : List (Int × Int)} (h : TiersAt H a ts) : TiersAt H' a ts := by
  obtain ⟨us, h1, h2, h3⟩ := h
  exact ⟨us, e.lst h1, h2, fun i u t a b => e.tup (h3 i u t a b)⟩
theorem OfrAt.ke (e : Ke H H') {a : Addr} : ∀ {o : Ofr}, OfrAt H a o → OfrAt H' a o
  | .pack c p, ⟨b, h1, h2⟩ => ⟨b, e.tup h1, e.lst h2⟩
  | .many c ts, ⟨b, t, h1, h2, h3⟩ => ⟨b, t, e.tup h1, e.lst h2, h3.ke e⟩
  | .add c p k, ⟨b, h1, h2⟩ => ⟨b, e.tup h1, e.lst h2⟩
theorem ShopAt.ke (e : Ke H H') {a : Addr} {os : List Ofr} (h : ShopAt H a os) : ShopAt H' a os := by
  obtain ⟨vs, h1, h2, h3⟩ := h
  exact ⟨vs, e.lst h1, h2, fun i v o a b => (h3 i v o a b).ke e⟩
theorem TiersAt.same (s : Same H H') {a : Addr} {ts : List (Int × Int)} (h : TiersAt H a ts) : TiersAt H' a ts := h.ke (.of s)
/-- a tier more -/
theorem TiersAt.push {F u : Addr} {ts : List (Int × Int)} {t : Int × Int} (h : TiersAt H F ts) (nu : H u = none) : ∃ xs, H F = some (.lst xs) ∧ xs.length = ts.length ∧ TiersAt (upd (upd H u (.tup [.int t.1, .int t.2])) F (.lst (xs ++ [.ref u]))) F (ts ++ [t]) := by
  obtain ⟨us, h1, h2, h3⟩ := h
  refine ⟨_, h1, by rw [List.length_map]; exact h2, us ++ [u], ?_, by rw [List.length_append, List.length_append, h2]; rfl, fun i v t' hv ht => ?_⟩
  · rw [upd_same, List.map_append]
    rfl
  · by_cases z : i < us.length
    · rw [List.getElem?_append_left z] at hv
      rw [List.getElem?_append_left (by omega)] at ht
      have e := h3 i v t' hv ht
      rw [upd_ne (ne_of e h1 (fun z => nomatch z)), upd_ne (ne_of_none e nu)]
      exact e
    · rw [List.getElem?_append_right (by omega)] at hv
      rw [List.getElem?_append_right (by omega)] at ht
      rw [← h2] at ht
      have ei : i - us.length = 0 := by
        rcases Nat.eq_zero_or_pos (i - us.length) with z | z
        · exact z
        · rw [List.getElem?_eq_none (by rw [List.length_singleton]; omega)] at hv
          cases hv
      rw [ei] at hv ht
      cases Option.some.inj hv
      cases Option.some.inj ht
      rw [upd_ne (fun z => by rw [z, h1] at nu; cases nu), upd_same]
end
/-! ### offers within bounds -/
def PriceT (ts : List (Int × Int)) : Prop := ∀ t ∈ ts, 0 ≤ t.2 ∧ t.2 < 1000000000000
theorem cut_off {d : Addr} {H : Hp} {o : HO} : cutH d (upd H d o) = cutH d H := by
  funext b
  by_cases e : b = d
  · unfold cutH
    rw [if_pos e, if_pos e]
  · rw [cut_at e, cut_at e, upd_ne e]
theorem cut_mono {d : Addr} {H H' : Hp} (s : Same H H') : Same (cutH d H) (cutH d H') := cut_same (.of s)
theorem TiersAt.cut {H : Hp} {S t : Addr} {ts : List (Int × Int)} {xs : List V} (h : TiersAt H t ts) (n : t ≠ S) (hS : H S = some (.lst xs)) : TiersAt (cutH S H) t ts := by
  obtain ⟨us, h1, h2, h3⟩ := h
  refine ⟨us, cut_put n h1, h2, fun i u t a b => ?_⟩
  have e := h3 i u t a b
  exact cut_put (ne_of e hS (fun z => nomatch z)) e
/-- contents of an offer: small, not all noughts, with at most 400 lesser ones -/
def SmallR (c : List Int) : Prop := Small c ∧ casesM c ≤ 400 ∧ ∃ x ∈ c, 0 < x
def FitO (m : Nat) : Ofr → Prop
  | .pack c p => c.length = m ∧ SmallR c ∧ 0 ≤ p ∧ p < 1000000000000
  | .many c ts => c.length = m ∧ SmallR c ∧ PriceT ts
  | .add c p _ => c.length = m ∧ SmallR c ∧ 0 ≤ p ∧ p < 1000000000000
def FitS (m : Nat) (os : List Ofr) : Prop := ∀ o ∈ os, FitO m o
theorem FitO.contR {m : Nat} : ∀ {o : Ofr}, FitO m o → o.cont.length = m ∧ SmallR o.cont
  | .pack _ _, h => ⟨h.1, h.2.1⟩
  | .many _ _, h => ⟨h.1, h.2.1⟩
  | .add _ _ _, h => ⟨h.1, h.2.1⟩
theorem FitO.cont {m : Nat} {o : Ofr} (h : FitO m o) : o.cont.length = m ∧ Small o.cont := ⟨h.contR.1, h.contR.2.1⟩
theorem FitS.fit {m : Nat} {os : List Ofr} (hm : m ≤ 4) (h : FitS m os) : Fit os := fun o ho => by
  refine ⟨?_, fun c p k e => ?_⟩
  · have := (h o ho).cont.1
    omega
  · subst e
    have := h _ ho
    exact ⟨by have := this.2.2.1; omega, by have := this.2.2.2; omega⟩
theorem FitS.push {m : Nat} {os : List Ofr} {o : Ofr} (h : FitS m os) (ho : FitO m o) : FitS m (os ++ [o]) := fun x hx => by
  rcases List.mem_append.mp hx with z | z
  · exact h x z
  · rw [List.mem_singleton.mp z]
    exact ho
theorem GoodO.mono {os : List Ofr} {i : Nat} {x : Ofr} : ∀ {o : Ofr}, GoodO os i o → GoodO (os ++ [x]) i o
  | .pack _ _, _ => True.intro
  | .many _ _, h => h
  | .add _ _ _, ⟨j, e, hj, c, p, h⟩ => ⟨j, e, hj, c, p, by rw [List.getElem?_append_left (List.getElem?_eq_some_iff.mp h).1]; exact h⟩
theorem Good.push {os : List Ofr} {o : Ofr} (h : Good os) (h8 : os.length < 8) (ho : GoodO os os.length o) : Good (os ++ [o]) := by
  refine ⟨by rw [List.length_append, List.length_singleton]; omega, fun i x hx => ?_⟩
  by_cases z : i < os.length
  · rw [List.getElem?_append_left z] at hx
    exact (h.2 i x hx).mono
  · have hi := (List.getElem?_eq_some_iff.mp hx).1
    rw [List.length_append, List.length_singleton] at hi
    have ei : i = os.length := by omega
    rw [List.getElem?_append_right (by omega), ei, Nat.sub_self] at hx
    cases Option.some.inj hx
    rw [ei]
    exact ho.mono
/-! ### _law_content, _law_price, _law_tiers -/
abbrev s_law_content : Stmt := topS 32
abbrev N_law_content : List Str := ["_law_draws_here", "_law_many", "_law_found"]
theorem sc_law_content : FnScope N_law_content ["_law_draws_here", "_law_many"] (defScope s_law_content) := ⟨rfl, rfl, rfl, by decide +kernel, rfl, by decide +kernel, by decide +kernel⟩

abbrev s_law_price : Stmt := topS 33
abbrev N_law_price : List Str := ["_law_draws_here", "_law_number"]
theorem sc_law_price : FnScope N_law_price ["_law_draws_here"] (defScope s_law_price) := ⟨rfl, rfl, rfl, by decide +kernel, rfl, by decide +kernel, by decide +kernel⟩

theorem zero_of_sum {ws : List Int} (h : ∀ w ∈ ws, 0 ≤ w) (z : ws.sum = 0) : ∀ w ∈ ws, w = 0 := fun w hw => by
  obtain ⟨j, hj, e⟩ := List.getElem_of_mem hw
  have := sum_get (j := j) (x := w) h (by rw [List.getElem?_eq_getElem hj, e])
  have := h w hw
  omega
theorem some_of_sum : ∀ {ws : List Int}, (∀ w ∈ ws, 0 ≤ w) → ws.sum ≠ 0 → ∃ x ∈ ws, 0 < x
  | [], _, z => absurd rfl z
  | a :: r, h, z => by
    by_cases ha : 0 < a
    · exact ⟨a, List.mem_cons_self, ha⟩
    · have h0 := h a List.mem_cons_self
      obtain ⟨x, hx, hp⟩ := some_of_sum (ws := r) (fun w hw => h w (List.mem_cons_of_mem _ hw)) (fun e => z (by rw [List.sum_cons, e]; omega))
      exact ⟨x, List.mem_cons_of_mem _ hx, hp⟩
theorem foldl_set : ∀ {ws : List Int} {j : Nat} {v : Int} (p : Int), (∀ w ∈ ws, w = 0) → j < ws.length → (ws.set j v).foldl (fun p w => p * (w + 1)) p = p * (v + 1)
  | a :: r, 0, v, p, h, _ => by
    show r.foldl (fun p w => p * (w + 1)) (p * (v + 1)) = _
    exact casesM_zero r _ fun w hw => h w (List.mem_cons_of_mem _ hw)
  | a :: r, j + 1, v, p, h, hj => by
    have e : a = 0 := h a List.mem_cons_self
    subst e
    show (r.set j v).foldl (fun p w => p * (w + 1)) (p * (0 + 1)) = _
    rw [foldl_set _ (fun w hw => h w (List.mem_cons_of_mem _ hw)) (by simpa using hj)]
    rw [Int.zero_add, Int.mul_one]
theorem casesM_set {ws : List Int} {j : Nat} {v : Int} (h : ∀ w ∈ ws, w = 0) (hj : j < ws.length) : casesM (ws.set j v) = v + 1 := by
  unfold casesM
  rw [foldl_set 1 h hj, Int.one_mul]
def sp_content : Sp := fun vs H Q _ => ∃ (a : Addr) (ns : List Int) (m : Nat), vs = [.ref a, .int m] ∧ H a = some (LI ns) ∧ 1 ≤ m ∧ m ≤ 4 ∧
  ∀ H' p ws ns', SameBut a H H' → H p = none → p ≠ a → H' p = some (LI ws) → H' a = some (LI ns') → ws.length = m → SmallR ws → Q (.ref p) H'
def sp_price : Sp := fun vs H Q _ => ∃ (a : Addr) (ns : List Int), vs = [.ref a] ∧ H a = some (LI ns) ∧ ∀ H' ns' p, SameBut a H H' → H' a = some (LI ns') → 0 ≤ p → p < 1000000000000 → Q (.int p) H'
section
variable {P : Program} {w : World} {K : PySem.W.Frag} {mg : Str → Option Value} {base : Heap}
theorem ok_content {f f1 f2 f3 : Addr} {fd fd1 fd2 fd3 : FuncData} {k : Nat} (M : Names mg) (D : Def K mg "_law_content" s_law_content ["_law_draws_here", "_law_many"] f fd) (D_law_want : Def K mg "_law_want" s_law_want ["_law_draws_here", "_law_many"] f1 fd1) (D_law_pop : Def K mg "_law_pop" s_law_pop ["_law_draws_here"] f2 fd2) (D_law_cases : Def K mg "_law_cases" s_law_cases ["_law_want_here"] f3 fd3) :
    FnOk P w K mg base CX0 (k + 3) f fd ["_law_draws_here", "_law_many"] sp_content := by
  have G_law_want : FnOk P w K mg base CX0 (k + 2) f1 fd1 ["_law_draws_here", "_law_many"] sp_want := ok_want M D_law_want D_law_pop D_law_cases
  have G_law_pop : FnOk P w K mg base CX0 (k + 2) f2 fd2 ["_law_draws_here"] sp_pop := ok_pop D_law_pop
  refine D.F.ok sc_law_content (fun vs H Q E h => ?_) (fun cdv A outer s H vs Q E hr h => ?_)
  · obtain ⟨a, ns, m, rfl, _⟩ := h
    rfl
  · obtain ⟨a, ns, m, rfl, ha, hm1, hm4, q⟩ := h
    refine ⟨_, (pss_cons (ps_set (i := 2) sc_law_content.nd rfl (Or.inl rfl) (pe_call G_law_want hr (by rfl) D_law_want.g D_law_want.F.kp D_law_want.b .nil pass0 (pa_cons (pv 0) (pa_cons (pv 1) pa_nil))))
  (pss_cons (ps_if (pt_cmpR op_eq (pe_callB (cr_sum rfl) (by rfl) M.sum (by decide +kernel) (pa_cons (pv 2) pa_nil)) pe_int (nomark _))
   (pss_one (ps_asg (pe_op op_add pe_int (pe_op op_mod (pe_call G_law_pop hr (by rfl) D_law_pop.g D_law_pop.F.kp D_law_pop.b .nil pass0 (pa_cons (pv 0) pa_nil)) pe_int)) (pg_sub (pv 2) (pe_op op_mod (pe_call G_law_pop hr (by rfl) D_law_pop.g D_law_pop.F.kp D_law_pop.b .nil pass0 (pa_cons (pv 0) pa_nil)) (pv 1)) set_list)))
   pss_nil)
  (pss_one (ps_ret (pv 2))))), ?_⟩
    refine ⟨_, rfl, _, rfl, a, ns, m, rfl, ha, hm1, hm4, fun H1 p ws ns1 s1 np npa hp ha1 hl sm cas => ?_⟩
    refine ⟨_, rfl, p, ws, rfl, SqL.of hp, rfl, _, rfl, ite2 (fun zs => ?_) (fun zs => ?_)⟩
    · refine ⟨_, rfl, a, ns1, rfl, ha1, fun H2 s2 ha2 => ⟨_, _, rfl, rfl, (by show (0 : Int) < _; decide), _, _, rfl, rfl, ?_⟩⟩
      refine ⟨_, rfl, _, rfl, a, _, rfl, ha2, fun H3 s3 ha3 => ?_⟩
      have hp3 := s3 _ _ npa (s2 _ _ npa hp)
      obtain ⟨j, hj, ej⟩ := mod_at (i := ns1.tail.headD 0) (n := m) (by omega)
      refine ⟨_, rfl, _, _, rfl, rfl, (by show (0 : Int) < (m : Int); omega), p, _, _, j, rfl, rfl, hp3, (by rw [ej, List.length_map]; exact ixN_nat (by omega)), _, rfl, ?_⟩
      refine q _ p (ws.set j (1 + ns1.headD 0 % 9)) ns1.tail.tail (((s1.trans s2).trans s3).new np) np npa ?_ ?_ (by rw [List.length_set]; exact hl) ⟨fun x hx => ?_, ?_, ?_⟩
      · exact at_set
      · rw [upd_ne npa.symm]
        exact ha3
      rotate_left
      · have z0 : ws.sum = 0 := V.int.inj (of_decide_eq_true zs)
        rw [casesM_set (fun w hw => zero_of_sum (fun w hw => (sm w hw).1) z0 w hw) (by omega)]
        omega
      · exact ⟨_, List.mem_of_getElem? (List.getElem?_set_self (by omega)), by omega⟩
      · rcases List.mem_or_eq_of_mem_set hx with z | z
        · exact sm x z
        · rw [z]
          omega
    · exact ⟨_, rfl, q H1 p ws ns1 s1 np npa hp ha1 hl ⟨sm, cas, some_of_sum (fun w hw => (sm w hw).1) fun z => zs (decide_eq_true (congrArg V.int z))⟩⟩
theorem menu4 {a b c e : Int} {j : Nat} (h : j < 4) (h1 : 0 ≤ a ∧ a < 1000000000000) (h2 : 0 ≤ b ∧ b < 1000000000000) (h3 : 0 ≤ c ∧ c < 1000000000000) (h4 : 0 ≤ e ∧ e < 1000000000000) : ∃ v : Int, ([V.int a, V.int b, V.int c, V.int e] : List V)[j]? = some (.int v) ∧ 0 ≤ v ∧ v < 1000000000000 :=
  match j, h with
  | 0, _ => ⟨a, rfl, h1⟩
  | 1, _ => ⟨b, rfl, h2⟩
  | 2, _ => ⟨c, rfl, h3⟩
  | 3, _ => ⟨e, rfl, h4⟩
theorem ok_price {f f1 : Addr} {fd fd1 : FuncData} {k : Nat} (D : Def K mg "_law_price" s_law_price ["_law_draws_here"] f fd) (D_law_pop : Def K mg "_law_pop" s_law_pop ["_law_draws_here"] f1 fd1) :
    FnOk P w K mg base CX0 (k + 2) f fd ["_law_draws_here"] sp_price := by
  have G_law_pop : FnOk P w K mg base CX0 (k + 1) f1 fd1 ["_law_draws_here"] sp_pop := ok_pop D_law_pop
  refine D.F.ok sc_law_price (fun vs H Q E h => ?_) (fun cdv A outer s H vs Q E hr h => ?_)
  · obtain ⟨a, ns, rfl, _⟩ := h
    rfl
  · obtain ⟨a, ns, rfl, ha, q⟩ := h
    refine ⟨_, (pss_cons (ps_set (i := 1) sc_law_price.nd rfl (Or.inl rfl) (pe_call G_law_pop hr (by rfl) D_law_pop.g D_law_pop.F.kp D_law_pop.b .nil pass0 (pa_cons (pv 0) pa_nil)))
  (pss_one (ps_ret (pe_ix ix_list (pe_lst (pa_cons (pe_op op_mod (pe_op op_fdiv (pv 1) pe_int) pe_int) (pa_cons (pe_op op_mod (pe_op op_fdiv (pv 1) pe_int) pe_int) (pa_cons pe_int (pa_cons (pe_op op_mod (pe_op op_mul (pv 1) pe_int) (pe_op op_pow pe_int pe_int)) pa_nil))))) (pe_op op_mod (pv 1) pe_int) (fun _ _ => rfl))))), ?_⟩
    refine ⟨_, rfl, a, ns, rfl, ha, fun H1 s1 ha1 => ?_⟩
    generalize ns.headD 0 = n
    refine ⟨_, rfl, _, _, rfl, rfl, ⟨by decide, by decide⟩, _, _, rfl, rfl, (by show (0 : Int) < _; decide), ?_⟩
    refine ⟨_, rfl, _, _, rfl, rfl, ⟨by decide, by decide⟩, _, _, rfl, rfl, (by show (0 : Int) < _; decide), ?_⟩
    refine ⟨_, rfl, _, _, rfl, rfl, .inr ⟨by decide, by decide⟩, _, _, rfl, rfl, ⟨by decide, by decide, by decide⟩, _, _, rfl, rfl, (by show (0 : Int) < _; decide), by show 4 ≤ sizeLine; decide, fun e ne => ?_⟩
    obtain ⟨j, hj, ej⟩ := mod_at (i := n) (n := 4) (by decide)
    have e12 : (10 : Int) ^ (12 : Int).toNat = 1000000000000 := by decide
    obtain ⟨v, hv, hv0, hv1⟩ := menu4 (a := n / 4 % 30) (b := n / 4 % 1000) (c := 0) (e := n * 7919 % 10 ^ (12 : Int).toNat) hj (by omega) (by omega) (by omega) (by rw [e12]; omega)
    refine ⟨_, rfl, _, _, rfl, rfl, (by show (0 : Int) < _; decide), e, _, _, _, rfl, rfl, SqL.of upd_same, at_of ej hv, ?_⟩
    exact q _ _ v (s1.trans (.of (same_upd ne))) (by rw [upd_ne (ne_of_none ha1 ne)]; exact ha1) hv0 hv1
end
/-! ### _law_tiers -/
abbrev s_law_tiers : Stmt := topS 34
abbrev N_law_tiers : List Str := ["_law_draws_here", "_law_found", "_law_at", "_law_k", "_law_number"]
theorem sc_law_tiers : FnScope N_law_tiers ["_law_draws_here"] (defScope s_law_tiers) := ⟨rfl, rfl, rfl, by decide +kernel, rfl, by decide +kernel, by decide +kernel⟩

def sp_tiers : Sp := fun vs H Q _ => ∃ (a : Addr) (ns : List Int), vs = [.ref a] ∧ H a = some (LI ns) ∧
  ∀ H' p ts ns', SameBut a H H' → H p = none → TiersAt (cutH a H') p ts → GoodT ts → PriceT ts → H' a = some (LI ns') → Q (.ref p) H'
structure RiseT (ts : List (Int × Int)) (z : Int) (i : Nat) : Prop where
  few : ts.length ≤ i
  none : ts = [] → z = 1 ∧ i = 0
  one : ∀ t, ts[0]? = some t → t.1 = 1
  most : ∀ t ∈ ts, t.1 ≤ 12 ∧ t.1 < z
  rise : ∀ (i : Nat) a b, ts[i]? = some a → ts[i + 1]? = some b → a.1 < b.1
  pr : PriceT ts
theorem RiseT.push {ts : List (Int × Int)} {z z' p : Int} {i : Nat} (h : RiseT ts z i) (hz : z < 13) (hz' : z < z') (h0 : 0 ≤ p) (h1 : p < 1000000000000) : RiseT (ts ++ [(z, p)]) z' (i + 1) := by
  refine ⟨?_, fun e => ?_, fun t e => ?_, fun t ht => ?_, fun j a b ha hb => ?_, fun t ht => ?_⟩
  · have := h.few
    rw [List.length_append, List.length_singleton]
    omega
  · simp at e
  · cases hts : ts with
    | nil =>
      rw [hts] at e
      cases Option.some.inj e
      exact (h.none hts).1
    | cons x r =>
      rw [hts] at e
      exact h.one t (by rw [hts]; exact e)
  · rcases List.mem_append.mp ht with m | m
    · have := h.most t m
      exact ⟨this.1, by omega⟩
    · rw [List.mem_singleton.mp m]
      exact ⟨by show z ≤ 12; omega, hz'⟩
  · by_cases c : j + 1 < ts.length
    · rw [List.getElem?_append_left (by omega)] at ha
      rw [List.getElem?_append_left c] at hb
      exact h.rise j a b ha hb
    · have hj : j + 1 = ts.length := by
        have := (List.getElem?_eq_some_iff.mp hb).1
        rw [List.length_append, List.length_singleton] at this
        omega
      rw [List.getElem?_append_left (by omega)] at ha
      rw [List.getElem?_append_right (by omega), hj, Nat.sub_self] at hb
      cases Option.some.inj hb
      exact (h.most a (List.mem_of_getElem? ha)).2
  · rcases List.mem_append.mp ht with m | m
    · exact h.pr t m
    · rw [List.mem_singleton.mp m]
      exact ⟨h0, h1⟩
theorem RiseT.pass {ts : List (Int × Int)} {z z' : Int} {i : Nat} (h : RiseT ts z i) (hz : ¬z < 13) (hz' : z < z') : RiseT ts z' (i + 1) := by
  refine ⟨by have := h.few; omega, fun e => ?_, h.one, fun t ht => ?_, h.rise, h.pr⟩
  · have := h.none e
    omega
  · have := h.most t ht
    exact ⟨this.1, by omega⟩
theorem RiseT.good {ts : List (Int × Int)} {z : Int} {i : Nat} (h : RiseT ts z i) (h1 : 1 ≤ i) (h4 : i ≤ 4) : GoodT ts := by
  refine ⟨?_, by have := h.few; omega, h.one, fun t ht => (h.most t ht).1, h.rise⟩
  rcases Nat.eq_zero_or_pos ts.length with z | z
  · have := (h.none (List.eq_nil_of_length_eq_zero z)).2
    omega
  · exact z
theorem menu3 {j : Nat} (h : j < 3) : ∃ v : Int, ([V.int 1, V.int 3, V.int 8] : List V)[j]? = some (.int v) ∧ 0 < v :=
  match j, h with
  | 0, _ => ⟨1, rfl, by decide⟩
  | 1, _ => ⟨3, rfl, by decide⟩
  | 2, _ => ⟨8, rfl, by decide⟩
section
variable {P : Program} {w : World} {K : PySem.W.Frag} {mg : Str → Option Value} {base : Heap}
theorem ok_tiers {f f1 f2 : Addr} {fd fd1 fd2 : FuncData} {k : Nat} (M : Names mg) (D : Def K mg "_law_tiers" s_law_tiers ["_law_draws_here"] f fd) (D_law_price : Def K mg "_law_price" s_law_price ["_law_draws_here"] f1 fd1) (D_law_pop : Def K mg "_law_pop" s_law_pop ["_law_draws_here"] f2 fd2) :
    FnOk P w K mg base CX0 (k + 3) f fd ["_law_draws_here"] sp_tiers := by
  have G_law_price : FnOk P w K mg base CX0 (k + 2) f1 fd1 ["_law_draws_here"] sp_price := ok_price D_law_price D_law_pop
  have G_law_pop : FnOk P w K mg base CX0 (k + 2) f2 fd2 ["_law_draws_here"] sp_pop := ok_pop D_law_pop
  refine D.F.ok sc_law_tiers (fun vs H Q E h => ?_) (fun cdv A outer s H vs Q E hr h => ?_)
  · obtain ⟨a, ns, rfl, _⟩ := h
    rfl
  · obtain ⟨a, ns, rfl, ha, q⟩ := h
    refine ⟨_, (pss_cons (ps_set (i := 1) sc_law_tiers.nd rfl (Or.inl rfl) (pe_lst pa_nil))
  (pss_cons (ps_set (i := 2) sc_law_tiers.nd rfl (Or.inl rfl) pe_int)
  (pss_cons (ps_for PassesOwn.never rfl (pi_range1 (by rfl) M.range (pa_cons (pe_op op_add pe_int (pe_op op_mod (pe_call G_law_pop hr (by rfl) D_law_pop.g D_law_pop.F.kp D_law_pop.b .nil pass0 (pa_cons (pv 0) pa_nil)) pe_int)) pa_nil)) (pg_name (i := 3) sc_law_tiers.nd rfl (Or.inl rfl))
   (pss_cons (ps_set (i := 4) sc_law_tiers.nd rfl (Or.inl rfl) (pe_call G_law_pop hr (by rfl) D_law_pop.g D_law_pop.F.kp D_law_pop.b .nil pass0 (pa_cons (pv 0) pa_nil)))
  (pss_cutI (ps_if (pt_cmpR op_lt (pv 2) pe_int (nomark _))
   (pss_one (ps_expr (pe_bm PySem.F.plainAttrs_list PySem.F.slot_list_append PySem.F.type_list_append mt_append (pv 1) (pa_cons (pe_tup (pa_cons (pv 2) (pa_cons (pe_call G_law_price hr (by rfl) D_law_price.g D_law_price.F.kp D_law_price.b .nil pass0 (pa_cons (pv 0) pa_nil)) pa_nil))) pa_nil))))
   pss_nil)
  (pss_one (ps_set (i := 2) sc_law_tiers.nd rfl (Or.inl rfl) (pe_op op_add (pe_op op_add (pv 2) pe_int) (pe_op op_mod (pv 4) (pe_ix ix_list (pe_lst (pa_cons pe_int (pa_cons pe_int (pa_cons pe_int pa_nil)))) (pe_op op_mod (pe_op op_fdiv (pv 4) pe_int) pe_int) (fun _ _ => rfl)))))))))
  (pss_one (ps_ret (pv 1)))))), ?_⟩
    refine ⟨Nat.zero_le _, fun F nF => ?_⟩
    have naF : F ≠ a := (ne_of_none ha nF).symm
    have ha0 : upd H F (.lst []) a = some (LI ns) := by rw [upd_ne naF.symm]; exact ha
    refine ⟨_, rfl, a, ns, rfl, ha0, fun H1 s1 ha1 => ?_⟩
    have s1' : SameBut a H H1 := (SameBut.of (same_upd nF)).trans s1
    have hF1 : H1 F = some (.lst []) := s1 _ _ naF upd_same
    obtain ⟨m, hm1, hm4, em⟩ := draw4 (ns.headD 0)
    refine ⟨_, _, rfl, rfl, (by show (0 : Int) < _; decide), _, _, rfl, rfl, _, rfl, by omega, by omega, for_range (n := (1 + ns.headD 0 % 4).toNat) (fun i σ H' => ∃ z y3 y4, σ = [some (.ref a), some (.ref F), some (.int z), y3, y4] ∧ SameBut a H H' ∧ (∃ ds, H' a = some (LI ds)) ∧ ∃ ts, TiersAt (cutH a H') F ts ∧ RiseT ts z i) ⟨1, none, none, rfl, s1', ⟨_, ha1⟩, [], ⟨[], cut_put naF hF1, rfl, fun i u t hu => by simp at hu⟩, ⟨Nat.le_refl _, fun _ => ⟨rfl, rfl⟩, fun t e => by simp at e, fun t ht => by simp at ht, fun i a b ha => by simp at ha, fun t ht => by simp at ht⟩⟩ (fun i σ H2 hi hp => ?_) (fun σ H2 hp => ?_)⟩
    · obtain ⟨z, y3, y4, rfl, s2, ⟨ds, ha2⟩, ts, hts, rs⟩ := hp
      refine ⟨_, rfl, a, ds, rfl, ha2, fun H3 s3 ha3 => ?_⟩
      have hts3 := hts.same (cut_same s3)
      generalize ds.headD 0 = n
      refine ⟨fun σ' H' => ∃ ts', σ' = [some (.ref a), some (.ref F), some (.int z), some (.int (0 + (i : Nat))), some (.int n)] ∧ SameBut a H H' ∧ (∃ ds, H' a = some (LI ds)) ∧ TiersAt (cutH a H') F ts' ∧ ∀ z', z < z' → RiseT ts' z' (i + 1), ?_, fun σ6 H6 hI => ?_⟩
      · refine ⟨_, rfl, _, _, rfl, rfl, _, rfl, ite2 (fun c => ?_) (fun c => ?_)⟩
        · have c' : z < 13 := of_decide_eq_true c
          have hF3 : ∃ xs, H3 F = some (.lst xs) := by
            obtain ⟨us, h1, _⟩ := id hts3
            exact ⟨_, (cut_some h1).2⟩
          obtain ⟨xs3, hF3⟩ := hF3
          refine ⟨_, rfl, .inl ⟨rfl, _, SqL.of hF3⟩, _, rfl, _, rfl, a, _, rfl, ha3, fun H4 ns4 p s4 ha4 p0 p1 => ⟨by show 2 ≤ sizeLine; decide, fun u nu => ?_⟩⟩
          have hts4 := hts3.same (cut_same s4)
          have nua : u ≠ a := (ne_of_none ha4 nu).symm
          have nuc : cutH a H4 u = none := by rw [cut_at nua]; exact nu
          obtain ⟨xs, hx, hxl, hpu⟩ := hts4.push (t := (z, p)) nuc
          have hF4 := (cut_some hx).2
          have few := rs.few
          refine ⟨F, _, _, rfl, rfl, (by rw [upd_ne (ne_of_none hF4 nu)]; exact hF4), szL' (by omega), ts ++ [(z, p)], rfl, ?_, ⟨ns4, ?_⟩, ?_, fun z' hz => rs.push c' hz p0 p1⟩
          · exact (((s2.trans s3).trans s4).trans (.of (same_upd nu))).new nF
          · rw [upd_ne naF.symm, upd_ne nua.symm]
            exact ha4
          · rw [cut_upd naF, cut_upd nua]
            exact hpu
        · exact ⟨ts, rfl, s2.trans s3, ⟨_, ha3⟩, hts3, fun z' hz => rs.pass (fun y => c (decide_eq_true y)) hz⟩
      · obtain ⟨ts', rfl, s6, ⟨ds6, ha6⟩, hts6, hr6⟩ := hI
        refine ⟨_, rfl, _, _, rfl, rfl, _, rfl, by show 3 ≤ sizeLine; decide, fun e ne => ?_⟩
        obtain ⟨j, hj, ej⟩ := mod_at (i := n / 8) (n := 3) (by decide)
        obtain ⟨v, hv, hv0⟩ := menu3 hj
        have nea : e ≠ a := (ne_of_none ha6 ne).symm
        refine ⟨_, rfl, _, _, rfl, rfl, ⟨by decide, by decide⟩, _, _, rfl, rfl, (by show (0 : Int) < _; decide), e, _, _, _, rfl, rfl, SqL.of upd_same, at_of ej hv, _, _, rfl, rfl, hv0, _, _, rfl, rfl, ?_⟩
        have := Int.emod_nonneg n (show v ≠ 0 by omega)
        exact ⟨_, _, _, rfl, s6.trans (.of (same_upd ne)), ⟨ds6, by rw [upd_ne nea.symm]; exact ha6⟩, ts', hts6.same (cut_same (.of (same_upd ne))), hr6 _ (by omega)⟩
    · obtain ⟨z, y3, y4, rfl, s2, ⟨ds, ha2⟩, ts, hts, rs⟩ := hp
      exact ⟨_, rfl, q H2 F ts ds s2 nF hts (rs.good (by omega) (by omega)) rs.pr ha2⟩
end
/-! ### lines as data -/
abbrev dInts (ns : List Int) : PyData := .list (ns.map PyData.int)
def dLine (l : Ln) : PyData := .tuple [.int l.p, .int l.c, dInts l.as]
abbrev dLines (ls : List Ln) : PyData := .list (ls.map dLine)
theorem LineAt.dp {K : PySem.W.Frag} {H : Hp} {a : Addr} {l : Ln} (h : LineAt H a l) : Dp K H (.ref a) (dLine l) := by
  obtain ⟨b, h1, h2⟩ := h
  exact .tup (SqT.of h1) (.cons (.int _) (.cons (.int _) (.cons (dp_ints (SqL.of h2)) .nil)))
theorem LineAt.same {H H' : Hp} (s : Same H H') {a : Addr} {l : Ln} (h : LineAt H a l) : LineAt H' a l := by
  obtain ⟨b, h1, h2⟩ := h
  exact ⟨b, s _ _ h1, s _ _ h2⟩
theorem LineAt.ke {H H' : Hp} (s : Ke H H') {a : Addr} {l : Ln} (h : LineAt H a l) : LineAt H' a l := by
  obtain ⟨b, h1, h2⟩ := h
  exact ⟨b, s.tup h1, s.lst h2⟩
theorem dp_lines {K : PySem.W.Frag} {H : Hp} : ∀ {as : List Addr} {ls : List Ln}, Al (LineAt H) as ls → DpAll K H (as.map V.ref) (ls.map dLine)
  | [], [], _ => .nil
  | [], _ :: _, h => h.elim
  | _ :: _, [], h => h.elim
  | _ :: _, _ :: _, h => .cons h.1.dp (dp_lines h.2)
theorem lay_line (l : Ln) : PyData.canLay0 (dLine l) = true := by
  have := lay_ints l.as
  simp [dLine, PyData.canLayAll0, PyData.canLay0, this]
theorem depth_line (l : Ln) : PyData.depth (dLine l) ≤ 2 := by
  have := depth_ints l.as
  simp only [dLine, PyData.depth, PyData.depthAll, this]
  decide
theorem lay_lines : ∀ ls : List Ln, PyData.canLayAll0 (ls.map dLine) = true
  | [] => by simp [PyData.canLayAll0]
  | l :: r => by
    have ih := lay_lines r
    have h1 := lay_line l
    simp [PyData.canLayAll0, ih, h1]
theorem depth_lines : ∀ ls : List Ln, PyData.depthAll (ls.map dLine) ≤ 2
  | [] => by simp [PyData.depthAll]
  | l :: r => by
    have ih := depth_lines r
    have h1 := depth_line l
    simp only [List.map_cons, PyData.depthAll]
    omega
theorem shaped_lines (ls : List Ln) : SeqAt.shaped (dLines ls) = true := by
  unfold SeqAt.shaped
  have h1 : PyData.canLay0 (dLines ls) = true := by
    simp only [PyData.canLay0]
    exact lay_lines ls
  have h2 : PyData.depth (dLines ls) ≤ 64 := by
    have := depth_lines ls
    simp only [PyData.depth]
    omega
  rw [h1, decide_eq_true h2]
  rfl
theorem shaped_line (l : Ln) : SeqAt.shaped (dLine l) = true := by
  unfold SeqAt.shaped
  have h2 : PyData.depth (dLine l) ≤ 64 := Nat.le_trans (depth_line l) (by decide)
  rw [lay_line l, decide_eq_true h2]
  rfl
theorem linesAtM_p {os : List Ofr} {i : Nat} {l : Ln} (h : l ∈ linesAtM os i) : l.p = (i : Int) := by
  unfold linesAtM at h
  split at h
  · obtain ⟨c, _, rfl⟩ := List.mem_map.mp h
    rfl
  · obtain ⟨c, _, rfl⟩ := List.mem_map.mp h
    rfl
  · cases h
theorem flat_one {α : Type} (X : List α) (p : Nat) : ∀ n : Nat, (List.range n).flatMap (fun i => if i = p then X else []) = if p < n then X else []
  | 0 => by simp
  | n + 1 => by
    rw [List.range_succ, List.flatMap_append, flat_one X p n, List.flatMap_singleton]
    by_cases h1 : p < n
    · rw [if_pos h1, if_neg (by omega), if_pos (by omega), List.append_nil]
    · rw [if_neg h1, List.nil_append]
      by_cases h2 : n = p
      · rw [if_pos h2, if_pos (by omega)]
      · rw [if_neg h2, if_neg (by omega)]
theorem lines_filter {os : List Ofr} {p : Nat} (h : p < os.length) : (linesM os).filter (fun l => decide (l.p = (p : Int))) = linesAtM os p := by
  unfold linesM
  rw [List.filter_flatMap]
  have e : ∀ i : Nat, (linesAtM os i).filter (fun l => decide (l.p = (p : Int))) = if i = p then linesAtM os p else [] := fun i => by
    by_cases z : i = p
    · rw [if_pos z, z, List.filter_eq_self]
      exact fun l hl => decide_eq_true (linesAtM_p hl)
    · rw [if_neg z, List.filter_eq_nil_iff]
      intro l hl
      have := linesAtM_p hl
      rw [decide_eq_true_eq]
      omega
  rw [show (fun i => (linesAtM os i).filter (fun l => decide (l.p = (p : Int)))) = fun i => if i = p then linesAtM os p else [] from funext e, flat_one, if_pos h]
/-! ### the tier of a count -/
def stepT (q : Int → Prop) [DecidablePred q] (ts : List (Int × Int)) (e : Int) : Int := ts.foldl (fun e t => if q t.1 then t.2 else e) e
theorem stepT_none {q : Int → Prop} [DecidablePred q] : ∀ {ts : List (Int × Int)} {e : Int}, (∀ t ∈ ts, ¬ q t.1) → stepT q ts e = e
  | [], _, _ => rfl
  | t :: r, e, h => by
    show stepT q r (if q t.1 then t.2 else e) = e
    rw [if_neg (h t List.mem_cons_self)]
    exact stepT_none fun t ht => h t (List.mem_cons_of_mem _ ht)
theorem stepT_split (c : Int) : ∀ (ts : List (Int × Int)) (e : Int), ts.Pairwise (fun a b => a.1 < b.1) → stepT (· = c) ts (stepT (· ≤ c - 1) ts e) = stepT (· ≤ c) ts e
  | [], _, _ => rfl
  | t :: r, e, h => by
    obtain ⟨h1, h2⟩ := List.pairwise_cons.mp h
    show stepT (· = c) r (if t.1 = c then t.2 else stepT (· ≤ c - 1) r (if t.1 ≤ c - 1 then t.2 else e)) = stepT (· ≤ c) r (if t.1 ≤ c then t.2 else e)
    by_cases z1 : t.1 ≤ c - 1
    · rw [if_pos z1, if_neg (by omega), if_pos (by omega)]
      exact stepT_split c r t.2 h2
    · rw [if_neg z1]
      by_cases z2 : t.1 = c
      · rw [if_pos z2, if_pos (by omega), stepT_none (q := (· = c)) fun x hx => by have := h1 x hx; omega, stepT_none (q := (· ≤ c)) fun x hx => by have := h1 x hx; omega]
      · rw [if_neg z2, if_neg (by omega)]
        exact stepT_split c r e h2
theorem pieceM_step (c : Int) : ∀ (ts : List (Int × Int)) (e : Int), (pieceL ts c).getLastD e = stepT (· ≤ c) ts e
  | [], _ => rfl
  | t :: r, e => by
    show _ = stepT (· ≤ c) r (if t.1 ≤ c then t.2 else e)
    rw [← pieceM_step c r]
    unfold pieceL
    by_cases z : t.1 ≤ c
    · rw [if_pos z, List.filter_cons_of_pos (p := fun t : Int × Int => decide (t.1 ≤ c)) (decide_eq_true z), List.map_cons, List.getLastD_cons]
    · rw [if_neg z, List.filter_cons_of_neg (by rw [decide_eq_true_eq]; exact z)]
theorem GoodT.pair {ts : List (Int × Int)} (h : GoodT ts) : ts.Pairwise (fun a b => a.1 < b.1) := by
  have step : ∀ (n i : Nat) (a b : Int × Int), ts[i]? = some a → ts[i + (n + 1)]? = some b → a.1 < b.1 := by
    intro n
    induction n with
    | zero => exact fun i a b ha hb => h.rise i a b ha hb
    | succ n ih =>
      intro i a b ha hb
      have hl := (List.getElem?_eq_some_iff.mp hb).1
      have g := List.getElem?_eq_getElem (show i + (n + 1) < ts.length by omega)
      have h1 := ih i a _ ha g
      have h2 := h.rise (i + (n + 1)) _ b g hb
      omega
  rw [List.pairwise_iff_getElem]
  intro i j hi hj hij
  have := step (j - i - 1) i ts[i] ts[j] (List.getElem?_eq_getElem hi) (by rw [show i + (j - i - 1 + 1) = j by omega]; exact List.getElem?_eq_getElem hj)
  exact this
theorem GoodT.ge1 {ts : List (Int × Int)} (h : GoodT ts) : ∀ t ∈ ts, 1 ≤ t.1 := fun t ht => by
  obtain ⟨i, hi, rfl⟩ := List.getElem_of_mem ht
  have e0 := h.one _ (List.getElem?_eq_getElem (show 0 < ts.length by omega))
  rcases Nat.eq_zero_or_pos i with z | z
  · subst z
    omega
  · have := List.pairwise_iff_getElem.mp h.pair 0 i (by omega) hi z
    omega
theorem pieceM_zero {ts : List (Int × Int)} (h : GoodT ts) : pieceM ts 0 = 0 := by
  unfold pieceM
  rw [pieceM_step]
  exact stepT_none fun t ht => by have := h.ge1 t ht; omega
theorem pieceM_succ {ts : List (Int × Int)} (h : GoodT ts) (c : Int) : stepT (· = c) ts (pieceM ts (c - 1)) = pieceM ts c := by
  unfold pieceM
  rw [pieceM_step, pieceM_step]
  exact stepT_split c ts 0 h.pair
theorem stepT_take {q : Int → Prop} [DecidablePred q] {ts : List (Int × Int)} {i : Nat} {t : Int × Int} {e : Int} (h : ts[i]? = some t) : stepT q (ts.take (i + 1)) e = if q t.1 then t.2 else stepT q (ts.take i) e := by
  unfold stepT
  rw [take_succ_at h, List.foldl_append]
  rfl
/-! ### shops made of offers -/
theorem ShopAt.of_al {H : Hp} {a : Addr} {vs : List Addr} {os : List Ofr} (h : H a = some (.lst (vs.map V.ref))) (al : Al (OfrAt H) vs os) : ShopAt H a os := by
  refine ⟨vs, h, al.len, fun i v o hv ho => ?_⟩
  obtain ⟨x, hx, r⟩ := al.get hv
  rw [ho] at hx
  cases Option.some.inj hx
  exact r
theorem TiersAt.of_al {H : Hp} {a : Addr} {us : List Addr} {ts : List (Int × Int)} (h : H a = some (.lst (us.map V.ref))) (al : Al (fun u (t : Int × Int) => H u = some (.tup [.int t.1, .int t.2])) us ts) : TiersAt H a ts := by
  refine ⟨us, h, al.len, fun i v o hv ho => ?_⟩
  obtain ⟨x, hx, r⟩ := al.get hv
  rw [ho] at hx
  cases Option.some.inj hx
  exact r
theorem ShopAt.al {H : Hp} {a : Addr} {os : List Ofr} (h : ShopAt H a os) : ∃ vs : List Addr, H a = some (.lst (vs.map V.ref)) ∧ Al (OfrAt H) vs os := by
  obtain ⟨vs, h1, h2, h3⟩ := h
  refine ⟨vs, h1, ?_⟩
  clear h1
  induction vs generalizing os with
  | nil =>
    cases os with
    | nil => exact True.intro
    | cons o r => simp at h2
  | cons v vr ih =>
    cases os with
    | nil => simp at h2
    | cons o r => exact ⟨h3 0 v o rfl rfl, ih (by simpa using h2) fun i v o hv ho => h3 (i + 1) v o hv ho⟩
theorem goodT_one (p : Int) : GoodT [(1, p)] := by
  refine ⟨by show 1 ≤ 1; decide, by show 1 ≤ 4; decide, fun t e => ?_, fun t ht => ?_, fun i a b ha hb => by simp at hb⟩
  · cases Option.some.inj e
    rfl
  · rw [List.mem_singleton.mp ht]
    show (1 : Int) ≤ 12
    decide
/-! ### _law_shop -/
abbrev s_law_shop : Stmt := topS 35
abbrev N_law_shop : List Str := ["_law_draws_here", "_law_many", "_law_most", "_law_shop_here", "_law_k", "_law_number", "_law_packs", "_law_content_here", "_law_place"]
theorem sc_law_shop : FnScope N_law_shop ["_law_draws_here", "_law_many", "_law_most"] (defScope s_law_shop) := ⟨rfl, rfl, rfl, by decide +kernel, rfl, by decide +kernel, by decide +kernel⟩

def isPack (os : List Ofr) (i : Nat) : Bool := match os[i]? with
  | some (.pack _ _) => true
  | _ => false
def packsN (os : List Ofr) (n : Nat) : List Int := ((List.range n).filter (isPack os)).map fun (i : Nat) => (i : Int)
theorem packsN_len (os : List Ofr) (n : Nat) : (packsN os n).length ≤ n := by
  unfold packsN
  rw [List.length_map]
  exact Nat.le_trans (List.length_filter_le _ _) (by rw [List.length_range]; exact Nat.le_refl _)
theorem packsN_yes {os : List Ofr} {n : Nat} (h : isPack os n = true) : packsN os (n + 1) = packsN os n ++ [(n : Int)] := by
  unfold packsN
  rw [List.range_succ, List.filter_append, List.map_append]
  simp [h]
theorem packsN_no {os : List Ofr} {n : Nat} (h : isPack os n = false) : packsN os (n + 1) = packsN os n := by
  unfold packsN
  rw [List.range_succ, List.filter_append, List.map_append]
  simp [h]
theorem packsN_mem {os : List Ofr} {n : Nat} {x : Int} (h : x ∈ packsN os n) : ∃ j : Nat, x = (j : Int) ∧ j < n ∧ ∃ c p, os[j]? = some (.pack c p) := by
  obtain ⟨j, hj, rfl⟩ := List.mem_map.mp h
  obtain ⟨h1, h2⟩ := List.mem_filter.mp hj
  refine ⟨j, rfl, List.mem_range.mp h1, ?_⟩
  unfold isPack at h2
  split at h2
  · exact ⟨_, _, by assumption⟩
  · cases h2
def sp_shop : Sp := fun vs H Q _ => ∃ (a : Addr) (ns : List Int) (m most : Nat), vs = [.ref a, .int m, .int most] ∧ H a = some (LI ns) ∧ 1 ≤ m ∧ m ≤ 4 ∧ most ≤ 8 ∧
  ∀ H' p os ns', SameBut a H H' → H p = none → ShopAt (cutH a H') p os → Good os → FitS m os → os.length ≤ most → H' a = some (LI ns') → Q (.ref p) H'
section
variable {P : Program} {w : World} {K : PySem.W.Frag} {mg : Str → Option Value} {base : Heap}
theorem ok_shop {f f1 f2 f3 f4 f5 f6 : Addr} {fd fd1 fd2 fd3 fd4 fd5 fd6 : FuncData} {k : Nat} (M : Names mg) (D : Def K mg "_law_shop" s_law_shop ["_law_draws_here", "_law_many", "_law_most"] f fd) (D_law_content : Def K mg "_law_content" s_law_content ["_law_draws_here", "_law_many"] f1 fd1) (D_law_price : Def K mg "_law_price" s_law_price ["_law_draws_here"] f2 fd2) (D_law_tiers : Def K mg "_law_tiers" s_law_tiers ["_law_draws_here"] f3 fd3)
    (D_law_want : Def K mg "_law_want" s_law_want ["_law_draws_here", "_law_many"] f4 fd4) (D_law_pop : Def K mg "_law_pop" s_law_pop ["_law_draws_here"] f5 fd5) (D_law_cases : Def K mg "_law_cases" s_law_cases ["_law_want_here"] f6 fd6) :
    FnOk P w K mg base CX0 (k + 4) f fd ["_law_draws_here", "_law_many", "_law_most"] sp_shop := by
  have G_law_content : FnOk P w K mg base CX0 (k + 3) f1 fd1 ["_law_draws_here", "_law_many"] sp_content := ok_content M D_law_content D_law_want D_law_pop D_law_cases
  have G_law_price : FnOk P w K mg base CX0 (k + 3) f2 fd2 ["_law_draws_here"] sp_price := ok_price D_law_price D_law_pop
  have G_law_tiers : FnOk P w K mg base CX0 (k + 3) f3 fd3 ["_law_draws_here"] sp_tiers := ok_tiers M D_law_tiers D_law_price D_law_pop
  have G_law_pop : FnOk P w K mg base CX0 (k + 3) f5 fd5 ["_law_draws_here"] sp_pop := ok_pop D_law_pop
  refine D.F.ok sc_law_shop (fun vs H Q E h => ?_) (fun cdv A outer s H vs Q E hr h => ?_)
  · obtain ⟨a, ns, m, most, rfl, _⟩ := h
    rfl
  · obtain ⟨a, ns, m, most, rfl, ha, hm1, hm4, hmost, q⟩ := h
    refine ⟨_, (pss_cons (ps_set (i := 3) sc_law_shop.nd rfl (Or.inr rfl) (pe_lst pa_nil))
  (pss_cons (ps_for PassesOwn.never rfl (pi_range1 (by rfl) M.range (pa_cons (pe_op op_mod (pe_call G_law_pop hr (by rfl) D_law_pop.g D_law_pop.F.kp D_law_pop.b .nil pass0 (pa_cons (pv 0) pa_nil)) (pe_op op_add (pv 2) pe_int)) pa_nil)) (pg_name (i := 4) sc_law_shop.nd rfl (Or.inl rfl))
   (pss_cons (ps_set (i := 5) sc_law_shop.nd rfl (Or.inl rfl) (pe_call G_law_pop hr (by rfl) D_law_pop.g D_law_pop.F.kp D_law_pop.b .nil pass0 (pa_cons (pv 0) pa_nil)))
  (pss_cons (ps_setLc (i := 6) (own := [("_law_place", 8)]) (by rfl) sc_law_shop.nd rfl rfl (sw_true rfl rfl rfl (by decide +kernel)) (pi_range1 (by rfl) M.range (pa_cons (pe_callB call_len_seq (by rfl) M.len (by decide +kernel) (pa_cons (pv 3) pa_nil)) pa_nil)) (blkOk_by (own := [("_law_place", 8)]) (N := N_law_shop) (sc := defScope s_law_shop) (by decide +kernel)) (fun _ _ _ _ _ => (pg_name (i := 8) sc_law_shop.nd rfl (Or.inl rfl))) (fun _ _ _ _ _ => (pts_one (pt_cmpR op_eq (pe_ix (ix_tupK (K := K) rfl) (pe_ix (ix_listK (K := K) rfl) (pv 3) (pv 8) (fun _ _ => rfl)) pe_int (fun _ _ => rfl)) pe_str (nomark _)))) (fun _ _ _ _ _ => (pv 8)))
  (pss_cons (ps_set (i := 7) sc_law_shop.nd rfl (Or.inl rfl) (pe_call G_law_content hr (by rfl) D_law_content.g D_law_content.F.kp D_law_content.b .nil pass0 (pa_cons (pv 0) (pa_cons (pv 1) pa_nil))))
  (pss_one (ps_if (PW.pt (pw_and (pt_cmpR op_gt (pe_op op_mod (pv 5) pe_int) pe_int (nomark _)) (pw_and1 (pt_cmpR (op_neD hr.units) (pv 6) (pe_lst pa_nil) (nomark _)))))
   (pss_one (ps_expr (pe_bm PySem.F.plainAttrs_list PySem.F.slot_list_append PySem.F.type_list_append mt_append (pv 3) (pa_cons (pe_tup (pa_cons pe_str (pa_cons (pv 7) (pa_cons (pe_call G_law_price hr (by rfl) D_law_price.g D_law_price.F.kp D_law_price.b .nil pass0 (pa_cons (pv 0) pa_nil)) (pa_cons (pe_ix ix_list (pv 6) (pe_op op_mod (pe_op op_fdiv (pv 5) pe_int) (pe_callB call_len_seq (by rfl) M.len (by decide +kernel) (pa_cons (pv 6) pa_nil))) (fun _ _ => rfl)) pa_nil))))) pa_nil))))
   (pss_one (ps_if (pt_cmpR op_gt (pe_op op_mod (pv 5) pe_int) pe_int (nomark _))
   (pss_one (ps_expr (pe_bm PySem.F.plainAttrs_list PySem.F.slot_list_append PySem.F.type_list_append mt_append (pv 3) (pa_cons (pe_tup (pa_cons pe_str (pa_cons (pv 7) (pa_cons (pe_call G_law_tiers hr (by rfl) D_law_tiers.g D_law_tiers.F.kp D_law_tiers.b .nil pass0 (pa_cons (pv 0) pa_nil)) pa_nil)))) pa_nil))))
   (pss_one (ps_expr (pe_bm PySem.F.plainAttrs_list PySem.F.slot_list_append PySem.F.type_list_append mt_append (pv 3) (pa_cons (pe_tup (pa_cons pe_str (pa_cons (pv 7) (pa_cons (pe_call G_law_price hr (by rfl) D_law_price.g D_law_price.F.kp D_law_price.b .nil pass0 (pa_cons (pv 0) pa_nil)) pa_nil)))) pa_nil))))))))))))
  (pss_one (ps_ret (pv 3))))), ?_⟩
    refine ⟨Nat.zero_le _, fun S nS => ?_⟩
    have nSa : S ≠ a := (ne_of_none ha nS).symm
    have ha0 : upd H S (.lst []) a = some (LI ns) := by rw [upd_ne nSa.symm]; exact ha
    refine ⟨_, rfl, a, ns, rfl, ha0, fun H1 s1 ha1 => ?_⟩
    have s1' : SameBut a H H1 := (SameBut.of (same_upd nS)).trans s1
    have hS1 : H1 S = some (.lst []) := s1 _ _ nSa upd_same
    obtain ⟨cnt, hcnt, ecnt⟩ := mod_at (i := ns.headD 0) (n := most + 1) (by omega)
    refine ⟨_, rfl, _, _, rfl, rfl, _, _, rfl, rfl, (by show (0 : Int) < (most : Int) + 1; omega), ?_⟩
    refine ⟨(cnt : Int), (by show [V.int (ns.headD 0 % ((most : Int) + 1))] = [V.int (cnt : Int)]; rw [show ns.headD 0 % ((most : Int) + 1) = (cnt : Int) from ecnt]), by omega, by omega, for_range (n := (cnt : Int).toNat) (fun i σ H' => ∃ y4 y5 y6 y7, σ = [some (.ref a), some (.int m), some (.int most), some (.ref S), y4, y5, y6, y7, none] ∧ SameBut a H H' ∧ (∃ ds, H' a = some (LI ds)) ∧ ∃ (vs : List Addr) (os : List Ofr), H' S = some (.lst (vs.map V.ref)) ∧ Al (OfrAt (cutH S (cutH a H'))) vs os ∧ Good os ∧ FitS m os ∧ os.length ≤ i) ⟨none, none, none, none, rfl, s1', ⟨_, ha1⟩, [], [], hS1, True.intro, ⟨by decide, fun i o ho => by simp at ho⟩, fun o ho => by simp at ho, Nat.le_refl _⟩ (fun i σ H2 hi hp => ?_) (fun σ H2 hp => ?_)⟩
    · obtain ⟨y4, y5, y6, y7, rfl, s2, ⟨ds, ha2⟩, vs, os, hS2, al, gd, ft, hlen⟩ := hp
      have hi2 : i < cnt := by omega
      have lal := al.len
      refine ⟨_, rfl, a, ds, rfl, ha2, fun H3 s3 ha3 => ?_⟩
      generalize ds.headD 0 = n
      have s23 := s2.trans s3
      have hS3 := s3 _ _ nSa hS2
      have al3 : Al (OfrAt (cutH S (cutH a H3))) vs os := al.imp fun v o h => h.same (cut_mono (cut_same s3))
      have sh3 : ShopAt H3 S os := ShopAt.of_al hS3 (al3.imp fun v o h => (h.same cut_le).same cut_le)
      obtain ⟨vs3, k1, k2, k3⟩ := id sh3
      -- packs
      refine ⟨_, rfl, S, _, rfl, .inl (SqL.of k1), _, rfl, by rw [List.length_map]; omega, by rw [List.length_map]; omega, fun B nB => lc_range (lo := 0) (n := ((vs3.map V.ref).length : Int).toNat) (fun j H' => Same H3 H' ∧ H' B = some (LI (packsN os j))) ⟨same_upd nB, upd_same⟩ (fun j H4 hj hI => ?_) (fun H4 hI => ?_)⟩
      · obtain ⟨s4, hB⟩ := hI
        have hj2 : j < os.length := by rw [Int.toNat_natCast, List.length_map] at hj; omega
        obtain ⟨v, o, g1, g2, g3⟩ := ShopAt.get (H := H3) (a := S) k2 hj2
        obtain ⟨b, r, hv, _⟩ := (k3 j v o g1 g2).head
        have nlen := packsN_len os j
        refine ⟨rfl, _, rfl, _, rfl, S, _, _, _, rfl, rfl, SqL.of (s4 _ _ k1), at_of (Int.zero_add _) g3, v, _, _, _, rfl, rfl, SqT.of (s4 _ _ hv), atI_nat (j := 0) rfl, rfl, ?_⟩
        cases o with
        | pack c pr =>
          have hn : isPack os j = true := by unfold isPack; rw [g2]
          refine ⟨true, rfl, _, rfl, _, hB, szL' (by rw [List.length_map]; omega), sm_new s4 nB, ?_⟩
          rw [packsN_yes hn, show (0 : Int) + (j : Nat) = (j : Int) from Int.zero_add _]
          exact at_app
        | many c ts =>
          have hn : isPack os j = false := by unfold isPack; rw [g2]
          exact ⟨false, rfl, s4, by rw [packsN_no hn]; exact hB⟩
        | add c pr kk =>
          have hn : isPack os j = false := by unfold isPack; rw [g2]
          exact ⟨false, rfl, s4, by rw [packsN_no hn]; exact hB⟩
      · obtain ⟨s4, hB⟩ := hI
        rw [Int.toNat_natCast, List.length_map, k2] at hB
        have ha4 := s4 _ _ ha3
        have hS4 := s4 _ _ hS3
        have nBa : B ≠ a := (ne_of_none ha3 nB).symm
        have s24 : SameBut a H H4 := s23.trans (.of s4)
        have al4 : Al (OfrAt (cutH S (cutH a H4))) vs os := al3.imp fun v o h => h.same (cut_mono (cut_mono s4))
        -- content
        refine ⟨_, rfl, _, rfl, a, _, m, rfl, ha4, hm1, hm4, fun H5 c ws ns5 s5 nc nca hc ha5 hl sm => ?_⟩
        have s25 := s24.trans s5
        have hS5 := s5 _ _ nSa hS4
        have hB5 := s5 _ _ nBa hB
        have ncS : c ≠ S := fun z => by rw [z, hS4] at nc; cases nc
        have al5 : Al (OfrAt (cutH S (cutH a H5))) vs os := al4.imp fun v o h => h.same (cut_mono (cut_same s5))
        have fin : ∀ (H6 : Hp) (v : Addr) (o : Ofr) (tup : List V) (ns6 : List Int), SameBut a H5 H6 → H6 v = none → H6 a = some (LI ns6) → (OfrAt (cutH S (cutH a (upd H6 v (.tup tup)))) v o) → GoodO os os.length o → FitO m o → upd H6 v (.tup tup) S = some (.lst (vs.map V.ref)) ∧ (vs.map V.ref).length < sizeLine ∧ (∃ y4 y5 y6 y7, [some (V.ref a), some (.int m), some (.int most), some (.ref S), some (.int (0 + (i : Nat))), some (.int n), some (.ref B), some (.ref c), none] = [some (.ref a), some (.int m), some (.int most), some (.ref S), y4, y5, y6, y7, none] ∧ SameBut a H (upd (upd H6 v (.tup tup)) S (.lst (vs.map V.ref ++ [.ref v]))) ∧ (∃ ds, upd (upd H6 v (.tup tup)) S (.lst (vs.map V.ref ++ [.ref v])) a = some (LI ds)) ∧ ∃ (vs' : List Addr) (os' : List Ofr), upd (upd H6 v (.tup tup)) S (.lst (vs.map V.ref ++ [.ref v])) S = some (.lst (vs'.map V.ref)) ∧ Al (OfrAt (cutH S (cutH a (upd (upd H6 v (.tup tup)) S (.lst (vs.map V.ref ++ [.ref v])))))) vs' os' ∧ Good os' ∧ FitS m os' ∧ os'.length ≤ i + 1) := by
          intro H6 v o tup ns6 s6 nv ha6 ho go fo
          have nva : v ≠ a := (ne_of_none ha6 nv).symm
          have hS6 := s6 _ _ nSa hS5
          have hS7 := (same_upd (o := .tup tup) nv) _ _ hS6
          refine ⟨hS7, szL' (by rw [List.length_map]; omega), _, _, _, _, rfl, ?_, ⟨ns6, ?_⟩, vs ++ [v], os ++ [o], ?_, ?_, gd.push (by omega) go, ft.push fo, by rw [List.length_append, List.length_singleton]; omega⟩
          · exact ((s25.trans s6).trans (.of (same_upd nv))).new nS
          · rw [upd_ne nSa.symm, upd_ne nva.symm]
            exact ha6
          · rw [upd_same, List.map_append]
            rfl
          · rw [cut_upd nSa, cut_off]
            refine Al.app (al5.imp fun x y h => h.same (cut_mono (cut_same (s6.trans (.of (same_upd nv)))))) (.one ho)
        have finM := fun (H6 H7 : Hp) (v tt : Addr) (ts : List (Int × Int)) (ns7 : List Int) (s6 : SameBut a H5 H6) (s7 : SameBut a H6 H7) (nt : H6 tt = none) (hts : TiersAt (cutH a H7) tt ts) (gts : GoodT ts) (prt : PriceT ts) (ha7 : H7 a = some (LI ns7)) (nv : H7 v = none) => by
          have hS6 := s6 _ _ nSa hS5
          have hS7 := s7 _ _ nSa hS6
          have nva : v ≠ a := (ne_of_none ha7 nv).symm
          have nvS : v ≠ S := (ne_of_none hS7 nv).symm
          have ntS : tt ≠ S := fun z => by rw [z, hS6] at nt; cases nt
          have hc7 := s7 _ _ nca (s6 _ _ nca hc)
          have hts' : TiersAt (cutH S (cutH a (upd H7 v (.tup [.str "many", .ref c, .ref tt])))) tt ts := (hts.cut ntS (cut_put nSa hS7)).same (cut_mono (cut_mono (same_upd nv)))
          exact fin H7 v (.many ws ts) [.str "many", .ref c, .ref tt] ns7 (s6.trans s7) nv ha7 ⟨c, tt, cut_put nvS (cut_put nva upd_same), cut_put ncS (cut_put nca ((same_upd nv) _ _ hc7)), hts'⟩ gts ⟨hl, sm, prt⟩
        have finP := fun (H6 H7 : Hp) (v : Addr) (ns7 : List Int) (p : Int) (s6 : SameBut a H5 H6) (s7 : SameBut a H6 H7) (ha7 : H7 a = some (LI ns7)) (p0 : 0 ≤ p) (p1 : p < 1000000000000) (nv : H7 v = none) => by
          have hS7 := s7 _ _ nSa (s6 _ _ nSa hS5)
          have nva : v ≠ a := (ne_of_none ha7 nv).symm
          have nvS : v ≠ S := (ne_of_none hS7 nv).symm
          have hc7 := s7 _ _ nca (s6 _ _ nca hc)
          exact fin H7 v (.pack ws p) [.str "pack", .ref c, .int p] ns7 (s6.trans s7) nv ha7 ⟨c, cut_put nvS (cut_put nva upd_same), cut_put ncS (cut_put nca ((same_upd nv) _ _ hc7))⟩ True.intro ⟨hl, sm, p0, p1⟩
        refine ⟨_, rfl, _, _, rfl, rfl, (by show (0 : Int) < _; decide), _, _, rfl, rfl, _, rfl, ite2 (fun _ => ?_) (fun _ => ?_)⟩
        · refine ⟨_, rfl, Nat.zero_le _, fun e ne => ?_⟩
          have se := same_upd (o := .lst []) ne
          have hB6 := se _ _ hB5
          have ha6 := se _ _ ha5
          have hS6 := se _ _ hS5
          have he : upd H5 e (.lst []) e = some (.lst []) := upd_same
          generalize upd H5 e (.lst []) = H6 at se hB6 ha6 hS6 he ⊢
          refine ⟨_, _, dp_ints (SqL.of hB6), dp_ints (ns := []) (SqL.of he), shaped_ints _, shaped_ints _, _, rfl, ite2 (fun z => ?_) (fun z => ?_)⟩
          · have pne : 0 < (packsN os os.length).length := by
              rcases Nat.eq_zero_or_pos (packsN os os.length).length with y | y
              · rw [eqv_ints, List.eq_nil_of_length_eq_zero y, decide_eq_true rfl] at z
                cases z
              · exact y
            obtain ⟨j, hj, ej⟩ := mod_at (i := n / 8) (n := ((packsN os os.length).map V.int).length) (by rw [List.length_map]; exact pne)
            rw [List.length_map] at hj
            refine ⟨_, rfl, .inl ⟨rfl, _, SqL.of hS6⟩, _, rfl, _, rfl, a, _, rfl, ha6, fun H7 ns7 p s7 ha7 p0 p1 => ?_⟩
            have hB7 := s7 _ _ nBa hB6
            refine ⟨_, rfl, _, rfl, _, _, rfl, rfl, ⟨by decide, by decide⟩, _, rfl, B, _, rfl, .inl (SqL.of hB7), _, _, rfl, rfl, (by rw [List.length_map]; omega), B, _, _, _, rfl, rfl, SqL.of hB7, at_of ej (getD_ints hj), by show 4 ≤ sizeLine; decide, fun v nv => ?_⟩
            obtain ⟨jj, ejj, hjj, cc, pp, hpk⟩ := packsN_mem (List.getElem_mem hj)
            have nva : v ≠ a := (ne_of_none ha7 nv).symm
            have hS7 := s7 _ _ nSa hS6
            have nvS : v ≠ S := (ne_of_none hS7 nv).symm
            have hc7 := s7 _ _ nca (se _ _ hc)
            exact ⟨S, _, _, rfl, rfl, fin H7 v (.add ws p ((packsN os os.length)[j])) _ ns7 ((SameBut.of se).trans s7) nv ha7 ⟨c, cut_put nvS (cut_put nva upd_same), cut_put ncS (cut_put nca ((same_upd nv) _ _ hc7))⟩ ⟨jj, ejj, hjj, cc, pp, hpk⟩ ⟨hl, sm, p0, p1⟩⟩
          · refine ⟨_, rfl, _, _, rfl, rfl, (by show (0 : Int) < _; decide), _, _, rfl, rfl, _, rfl, ite2 (fun _ => ?_) (fun _ => ?_)⟩
            · refine ⟨_, rfl, .inl ⟨rfl, _, SqL.of hS6⟩, _, rfl, _, rfl, a, _, rfl, ha6, fun H7 tt ts ns7 s7 nt hts gts prt ha7 => ⟨by show 3 ≤ sizeLine; decide, fun v nv => ?_⟩⟩
              exact ⟨S, _, _, rfl, rfl, finM H6 H7 v tt ts ns7 (.of se) s7 nt hts gts prt ha7 nv⟩
            · refine ⟨_, rfl, .inl ⟨rfl, _, SqL.of hS6⟩, _, rfl, _, rfl, a, _, rfl, ha6, fun H7 ns7 p s7 ha7 p0 p1 => ⟨by show 3 ≤ sizeLine; decide, fun v nv => ?_⟩⟩
              exact ⟨S, _, _, rfl, rfl, finP H6 H7 v ns7 p (.of se) s7 ha7 p0 p1 nv⟩
        · refine ⟨_, rfl, _, _, rfl, rfl, (by show (0 : Int) < _; decide), _, _, rfl, rfl, _, rfl, ite2 (fun _ => ?_) (fun _ => ?_)⟩
          · refine ⟨_, rfl, .inl ⟨rfl, _, SqL.of hS5⟩, _, rfl, _, rfl, a, _, rfl, ha5, fun H7 tt ts ns7 s7 nt hts gts prt ha7 => ⟨by show 3 ≤ sizeLine; decide, fun v nv => ?_⟩⟩
            exact ⟨S, _, _, rfl, rfl, finM H5 H7 v tt ts ns7 (.refl _ _) s7 nt hts gts prt ha7 nv⟩
          · refine ⟨_, rfl, .inl ⟨rfl, _, SqL.of hS5⟩, _, rfl, _, rfl, a, _, rfl, ha5, fun H7 ns7 p s7 ha7 p0 p1 => ⟨by show 3 ≤ sizeLine; decide, fun v nv => ?_⟩⟩
            exact ⟨S, _, _, rfl, rfl, finP H5 H7 v ns7 p (.refl _ _) s7 ha7 p0 p1 nv⟩
    · obtain ⟨y4, y5, y6, y7, rfl, s2, ⟨ds, ha2⟩, vs, os, hS2, al, gd, ft, hlen⟩ := hp
      refine ⟨_, rfl, q H2 S os ds s2 nS (ShopAt.of_al (cut_put nSa hS2) (al.imp fun v o h => h.same cut_le)) gd ft (by omega) ha2⟩
end
/-! ### shops as data -/
def dTier (t : Int × Int) : PyData := .tuple [.int t.1, .int t.2]
def dOfr : Ofr → PyData
  | .pack c p => .tuple [.str "pack", dInts c, .int p]
  | .many c ts => .tuple [.str "many", dInts c, .list (ts.map dTier)]
  | .add c p k => .tuple [.str "add", dInts c, .int p, .int k]
abbrev dShop (os : List Ofr) : PyData := .list (os.map dOfr)
theorem dp_tiers {K : PySem.W.Frag} {H : Hp} : ∀ {us : List Addr} {ts : List (Int × Int)}, us.length = ts.length → (∀ (i : Nat) u (t : Int × Int), us[i]? = some u → ts[i]? = some t → H u = some (.tup [.int t.1, .int t.2])) → DpAll K H (us.map V.ref) (ts.map dTier)
  | [], [], _, _ => .nil
  | [], _ :: _, h, _ => by simp at h
  | _ :: _, [], h, _ => by simp at h
  | u :: us, t :: ts, hl, h => .cons (.tup (SqT.of (h 0 u t rfl rfl)) (.cons (.int _) (.cons (.int _) .nil))) (dp_tiers (by simpa using hl) fun i u' t' a b => h (i + 1) u' t' a b)
theorem TiersAt.dp {K : PySem.W.Frag} {H : Hp} {a : Addr} {ts : List (Int × Int)} (h : TiersAt H a ts) : Dp K H (.ref a) (.list (ts.map dTier)) := by
  obtain ⟨us, h1, h2, h3⟩ := h
  exact .lst (SqL.of h1) (dp_tiers h2 h3)
theorem OfrAt.dp {K : PySem.W.Frag} {H : Hp} {a : Addr} : ∀ {o : Ofr}, OfrAt H a o → Dp K H (.ref a) (dOfr o)
  | .pack c p, ⟨b, h1, h2⟩ => .tup (SqT.of h1) (.cons (.str _) (.cons (dp_ints (SqL.of h2)) (.cons (.int _) .nil)))
  | .many c ts, ⟨b, t, h1, h2, h3⟩ => .tup (SqT.of h1) (.cons (.str _) (.cons (dp_ints (SqL.of h2)) (.cons h3.dp .nil)))
  | .add c p k, ⟨b, h1, h2⟩ => .tup (SqT.of h1) (.cons (.str _) (.cons (dp_ints (SqL.of h2)) (.cons (.int _) (.cons (.int _) .nil))))
theorem dp_ofrs {K : PySem.W.Frag} {H : Hp} : ∀ {vs : List Addr} {os : List Ofr}, Al (OfrAt H) vs os → DpAll K H (vs.map V.ref) (os.map dOfr)
  | [], [], _ => .nil
  | [], _ :: _, h => h.elim
  | _ :: _, [], h => h.elim
  | _ :: _, _ :: _, h => .cons h.1.dp (dp_ofrs h.2)
theorem ShopAt.dp {K : PySem.W.Frag} {H : Hp} {a : Addr} {os : List Ofr} (h : ShopAt H a os) : Dp K H (.ref a) (dShop os) := by
  obtain ⟨vs, h1, al⟩ := h.al
  exact .lst (SqL.of h1) (dp_ofrs al)
theorem lay_tiers : ∀ ts : List (Int × Int), PyData.canLayAll0 (ts.map dTier) = true
  | [] => by simp [PyData.canLayAll0]
  | t :: r => by
    have ih := lay_tiers r
    simp [PyData.canLayAll0, PyData.canLay0, dTier, ih]
theorem depth_tiers : ∀ ts : List (Int × Int), PyData.depthAll (ts.map dTier) ≤ 1
  | [] => by simp [PyData.depthAll]
  | t :: r => by
    have ih := depth_tiers r
    simp only [List.map_cons, PyData.depthAll, PyData.depth, dTier]
    omega
theorem lay_ofr (o : Ofr) : PyData.canLay0 (dOfr o) = true := by
  cases o with
  | pack c p =>
    have := lay_ints c
    simp [dOfr, PyData.canLayAll0, PyData.canLay0, this]
    decide +kernel
  | many c ts =>
    have := lay_ints c
    have h2 := lay_tiers ts
    simp [dOfr, PyData.canLayAll0, PyData.canLay0, this, h2]
    decide +kernel
  | add c p k =>
    have := lay_ints c
    simp [dOfr, PyData.canLayAll0, PyData.canLay0, this]
    decide +kernel
theorem depth_ofr (o : Ofr) : PyData.depth (dOfr o) ≤ 4 := by
  cases o with
  | pack c p =>
    have := depth_ints c
    simp only [dOfr, PyData.depth, PyData.depthAll, this]
    omega
  | many c ts =>
    have := depth_ints c
    have h2 := depth_tiers ts
    simp only [dOfr, PyData.depth, PyData.depthAll, this]
    omega
  | add c p k =>
    have := depth_ints c
    simp only [dOfr, PyData.depth, PyData.depthAll, this]
    omega
theorem lay_ofrs : ∀ os : List Ofr, PyData.canLayAll0 (os.map dOfr) = true
  | [] => by simp [PyData.canLayAll0]
  | o :: r => by
    have ih := lay_ofrs r
    have h1 := lay_ofr o
    simp [PyData.canLayAll0, ih, h1]
theorem depth_ofrs : ∀ os : List Ofr, PyData.depthAll (os.map dOfr) ≤ 4
  | [] => by simp [PyData.depthAll]
  | o :: r => by
    have ih := depth_ofrs r
    have h1 := depth_ofr o
    simp only [List.map_cons, PyData.depthAll]
    omega
theorem shaped_shop (os : List Ofr) : SeqAt.shaped (dShop os) = true := by
  unfold SeqAt.shaped
  have h1 : PyData.canLay0 (dShop os) = true := by
    simp only [PyData.canLay0]
    exact lay_ofrs os
  have h2 : PyData.depth (dShop os) ≤ 64 := by
    have := depth_ofrs os
    simp only [PyData.depth]
    omega
  rw [h1, decide_eq_true h2]
  rfl
/-! ### _law_names, _law_content_text -/
abbrev s_law_names : Stmt := topS 36
abbrev N_law_names : List Str := ["_law_draws_here", "_law_many", "_law_odd", "_law_found", "_law_k", "_law_number", "_law_letters", "_law_name", "_law_j"]
theorem sc_law_names : FnScope N_law_names ["_law_draws_here", "_law_many"] (defScope s_law_names) := ⟨rfl, rfl, rfl, by decide +kernel, rfl, by decide +kernel, by decide +kernel⟩

abbrev s_law_content_text : Stmt := topS 37
abbrev N_law_content_text : List Str := ["_law_names_here", "_law_content_here", "_law_pieces", "_law_k"]
theorem sc_law_content_text : FnScope N_law_content_text ["_law_names_here", "_law_content_here"] (defScope s_law_content_text) := ⟨rfl, rfl, rfl, by decide +kernel, rfl, by decide +kernel, by decide +kernel⟩

/-- a text times a number from 2 on -/
theorem op_mulS {X : Cx} : OpR X (binaryOp .Mult) (fun x y H Q => ∃ (c : Nat) (n : Nat), x = .str ⟨#[c]⟩ ∧ y = .int (n : Int) ∧ 2 ≤ n ∧ n ≤ 100 ∧ Q (.str ⟨(List.replicate n #[c]).foldl (· ++ ·) #[]⟩) H) := by
  intro pins s σ H x y v u Q I rx ry h
  obtain ⟨c, n, rfl, rfl, h1, h2, q⟩ := h
  obtain ⟨t, rfl⟩ := rx
  obtain ⟨t', rfl⟩ := ry
  have e1 : (((n : Nat) : Int) == 1) = false := beq_eq_false_iff_ne.mpr (by omega)
  have l1 : (⟨#[c]⟩ : Str).length = 1 := rfl
  refine PySem.P.mul_str (by
    rw [decide_eq_false (by omega), decide_eq_false (by omega)]
    rfl) (fun _ _ => ?_) (fun _ _ => ?_) ?_
  · rw [l1]
    have : ((2 : Int) ^ 63 - 1) / (n : Int) ≥ 1 := by
      refine (Int.le_ediv_iff_mul_le (by omega)).mpr ?_
      omega
    omega
  · rw [l1, Int.toNat_natCast]
    have hz : ¬ (1 * n > sizeLine) := by
      have := sizeLine_eq
      omega
    exact decide_eq_false hz
  · rw [if_neg (by omega), if_neg (by rw [e1, l1]; decide), Int.toNat_natCast]
    refine ⟨?_, .str _, H, I.tok _, ⟨_, rfl⟩, q⟩
    have key : ∀ (m : Nat) (acc : Array Nat), ((List.replicate m #[c]).foldl (· ++ ·) acc).size = acc.size + m := by
      intro m
      induction m with
      | zero => intro acc; rfl
      | succ m ih =>
        intro acc
        rw [List.replicate_succ, List.foldl_cons, ih, Array.size_append]
        show acc.size + 1 + m = _
        omega
    have k2 := key n #[]
    show ((List.replicate n #[c]).foldl (· ++ ·) #[]).size ≤ sizeLine
    rw [k2]
    have := sizeLine_eq
    show 0 + n ≤ sizeLine
    omega

/-- data: lists of texts -/
theorem dpAll_strs {K : PySem.W.Frag} {H : Hp} : ∀ xs : List Str, DpAll K H (xs.map V.str) (xs.map PyData.str)
  | [] => .nil
  | x :: r => .cons (.str x) (dpAll_strs r)
theorem dp_strs {K : PySem.W.Frag} {H : Hp} {a : Addr} {xs : List Str} (h : SqL K H a (xs.map V.str)) : Dp K H (.ref a) (.list (xs.map PyData.str)) := .lst h (dpAll_strs xs)
def Signs (x : Str) : Prop := ∀ c ∈ TL.tl x, c < 256
theorem lay_strs (xs : List Str) (h : ∀ x ∈ xs, Signs x) : PyData.canLayAll0 (xs.map PyData.str) = true := by
  have e : PyData.canLayAll0 (xs.map PyData.str) = xs.all PyData.strOk := by
    induction xs with
    | nil => simp [PyData.canLayAll0]
    | cons x r ih =>
      have := ih fun z hz => h z (List.mem_cons_of_mem _ hz)
      simp [PyData.canLayAll0, PyData.canLay0, this]
  rw [e, List.all_eq_true]
  intro x hx
  unfold PyData.strOk
  rw [← Array.all_toList, List.all_eq_true]
  intro c hc
  have := h x hx c hc
  exact decide_eq_true (by omega)
theorem depth_strs : ∀ xs : List Str, PyData.depthAll (xs.map PyData.str) = 0
  | [] => by simp [PyData.depthAll]
  | x :: r => by
    have ih := depth_strs r
    simp [PyData.depthAll, PyData.depth, ih]
theorem shaped_strs {xs : List Str} (h : ∀ x ∈ xs, Signs x) : SeqAt.shaped (.list (xs.map PyData.str)) = true := by
  unfold SeqAt.shaped
  have h1 : PyData.canLay0 (.list (xs.map PyData.str)) = true := by
    simp only [PyData.canLay0]
    exact lay_strs xs h
  have h2 : PyData.depth (.list (xs.map PyData.str)) ≤ 64 := by
    simp only [PyData.depth]
    rw [depth_strs]
    omega
  rw [h1, decide_eq_true h2]
  rfl
theorem eqv_nil_strs (xs : List Str) : PyData.eqv (.list (xs.map PyData.str)) (.list []) = decide (xs = []) := by
  cases xs with
  | nil => simp [PyData.eqv, PyData.eqvAll]
  | cons x r => simp [PyData.eqv, PyData.eqvAll]

theorem GoodN.signs {xs : List Str} (g : GoodN xs) : ∀ x ∈ xs, Signs x := fun x hx c hc => by
  have := g.small x hx c hc
  omega
theorem part_signs {xs : List Str} {cs : List Int} (g : GoodN xs) {i : Nat} (hi : i < xs.length) : Signs (partAt xs cs i) := fun c hc => by
  unfold partAt at hc
  rw [tl_part] at hc
  rcases List.mem_append.mp hc with z | z
  · have : ¬ (c < 48 ∨ 57 < c) := fun q => TL.numL_free q z
    omega
  · rcases List.mem_cons.mp z with z | z
    · omega
    · have := g.small _ (name_at hi).2 _ z
      omega
def sp_law_text : Sp := fun vs H Q _ => ∃ (a b : Addr) (xs : List Str) (cs : List Int), vs = [.ref a, .ref b] ∧ H a = some (LS xs) ∧ H b = some (LI cs) ∧ GoodN xs ∧ FitC xs cs ∧ ∀ H', Same H H' → Q (.str (showM xs cs)) H'
section
variable {P : Program} {w : World} {K : PySem.W.Frag} {mg : Str → Option Value} {base : Heap} {T : List Addr}
theorem ok_law_text {f : Addr} {fd : FuncData} {k : Nat} (M : Names mg) (D : Def K mg "_law_content_text" s_law_content_text ["_law_names_here", "_law_content_here"] f fd) : FnOk P w K mg base CX0 (k + 1) f fd ["_law_names_here", "_law_content_here"] sp_law_text := by
  refine D.F.ok sc_law_content_text (fun vs H Q E h => ?_) (fun cdv A outer s H vs Q E hr h => ?_)
  · obtain ⟨a, b, xs, cs, rfl, _⟩ := h
    rfl
  · obtain ⟨a, b, xs, cs, rfl, ha, hb, g, fc, q⟩ := h
    have few := g.few
    refine ⟨_, (pss_cons (ps_setLc (i := 2) (own := [("_law_k", 3)]) (by rfl) sc_law_content_text.nd rfl rfl (sw_true rfl rfl rfl (by decide +kernel)) (pi_range1 (by rfl) M.range (pa_cons (pe_callB call_len_seq (by rfl) M.len (by decide +kernel) (pa_cons (pv 0) pa_nil)) pa_nil)) (blkOk_by (own := [("_law_k", 3)]) (N := N_law_content_text) (sc := defScope s_law_content_text) (by decide +kernel)) (fun _ _ _ _ _ => (pg_name (i := 3) sc_law_content_text.nd rfl (Or.inl rfl))) (fun _ _ _ _ _ => (pts_one (pt_cmpR op_gt (pe_ix (ix_listK (K := K) rfl) (pv 1) (pv 3) (fun _ _ => rfl)) pe_int (nomark _)))) (fun _ _ _ _ _ => (pe_op op_add_str (pe_op op_add_str (pe_callTy call_str_int (by rfl) M.str (by decide +kernel) (pa_cons (pe_ix (ix_listK (K := K) rfl) (pv 1) (pv 3) (fun _ _ => rfl)) pa_nil)) pe_str) (pe_ix (ix_listK (K := K) rfl) (pv 0) (pv 3) (fun _ _ => rfl)))))
  (pss_cons (ps_if (pt_cmpR (op_eqD hr.units) (pv 2) (pe_lst pa_nil) (nomark _))
   (pss_one (ps_ret pe_str))
   pss_nil)
  (pss_one (ps_ret (pe_join pe_str (pv 2)))))), ?_⟩
    refine ⟨_, rfl, a, _, rfl, .inl (SqL.of ha), _, rfl, by omega, by rw [List.length_map]; omega, fun B nB => lc_range (lo := 0) (n := (((xs.map V.str).length : Nat) : Int).toNat) (fun i H' => Same H H' ∧ H' B = some (LS (partsM xs cs i))) ⟨same_upd nB, upd_same⟩ (fun i H1 hi hp => ?_) (fun H1 hp => ?_)⟩
    · obtain ⟨s1, hB⟩ := hp
      rw [Int.toNat_natCast, List.length_map] at hi
      obtain ⟨f1, f2, f3⟩ := fc.at hi
      obtain ⟨g1, g2⟩ := name_at hi
      have sh := g.short _ g2
      have l1 := num1_len f2 f3
      refine ⟨rfl, _, rfl, _, rfl, b, _, _, _, rfl, rfl, SqL.of (s1 _ _ hb), at_of (Int.zero_add _) (get_ints f1), _, _, rfl, rfl, _, rfl, ite2 (fun c => ?_) (fun c => ?_)⟩
      · have c2 : cs.getD i 0 > 0 := of_decide_eq_true c
        refine ⟨_, rfl, _, rfl, b, _, _, _, rfl, rfl, SqL.of (s1 _ _ hb), at_of (Int.zero_add _) (get_ints f1), _, rfl, small_log f2 f3, _, _, rfl, rfl, szL (by rw [blank_len]; omega), _, rfl, _, rfl, a, _, _, _, rfl, rfl, SqL.of (s1 _ _ ha), at_of (Int.zero_add _) (get_strs g1), _, _, rfl, rfl, szL (by rw [str_len_app, blank_len]; omega), ?_⟩
        refine ⟨_, hB, szL' (by rw [List.length_map]; have := partsM_len xs cs i; omega), sm_new s1 nB, ?_⟩
        have e := fpart f2 (xs.getD i Str.empty)
        rw [str_nil_app] at e
        rw [upd_same, ls_app, partsM_succ, if_pos c2, e]
        rfl
      · have c2 : ¬ cs.getD i 0 > 0 := fun z => c (decide_eq_true z)
        refine ⟨s1, ?_⟩
        rw [partsM_succ, if_neg c2, List.append_nil]
        exact hB
    · obtain ⟨s1, hB⟩ := hp
      rw [Int.toNat_natCast, List.length_map] at hB
      have hl := partsM_len xs cs xs.length
      have pl : ∀ p ∈ partsM xs cs xs.length, p.length ≤ 10 := fun p hp => by
        obtain ⟨i, hi, _, rfl⟩ := parts_all hp
        exact partAt_len g fc hi
      have ps := parts_sum pl
      have sg : ∀ p ∈ partsM xs cs xs.length, Signs p := fun p hp => by
        obtain ⟨i, hi, _, rfl⟩ := parts_all hp
        exact part_signs g hi
      have cl : (", " : Str).length = 2 := by decide +kernel
      refine ⟨_, rfl, by decide, fun e ne => ?_⟩
      have s2 := s1.trans (same_upd (o := .lst []) ne)
      have hB2 := (same_upd (o := .lst []) ne) _ _ hB
      refine ⟨_, .list [], dp_strs (SqL.of hB2), .lst (SqL.of upd_same) .nil, shaped_strs sg, by decide +kernel, _, rfl, ?_⟩
      rw [eqv_nil_strs]
      unfold showM at q
      by_cases z : partsM xs cs xs.length = []
      · rw [if_pos z] at q
        rw [decide_eq_true z]
        exact q _ s2
      · rw [if_neg z] at q
        rw [decide_eq_false z]
        refine ⟨⟨_, rfl⟩, _, rfl, _, B, _, rfl, rfl, .inl (SqL.of hB2), by rw [cl]; omega, ?_⟩
        rw [TL.join_eq]
        exact q _ s2
end
/-! ### the drawn names -/
def rep8 (k : Nat) : Str := ⟨(List.replicate 8 #[97 + k]).foldl (· ++ ·) #[]⟩
theorem tl_rep8 (k : Nat) : TL.tl (rep8 k) = [97 + k, 97 + k, 97 + k, 97 + k, 97 + k, 97 + k, 97 + k, 97 + k] := by
  simp [rep8, TL.tl, List.replicate]
/-- a name that is no eight times one letter -/
structure GoodX (x : Str) : Prop where
  small : ∀ c ∈ TL.tl x, 97 ≤ c ∧ c ≤ 122
  short : x.length ≤ 7
  some : 1 ≤ x.length
def oddW : List Str := ["for", "many", "with", "nothing", "x", "things", "none", "i"]
theorem odd_good : ∀ j, j < 8 → ∃ x, (oddW.map V.str)[j]? = some (.str x) ∧ GoodX x := fun j h =>
  match j, h with
  | 0, _ => ⟨"for", rfl, by decide +kernel, by decide +kernel, by decide +kernel⟩
  | 1, _ => ⟨"many", rfl, by decide +kernel, by decide +kernel, by decide +kernel⟩
  | 2, _ => ⟨"with", rfl, by decide +kernel, by decide +kernel, by decide +kernel⟩
  | 3, _ => ⟨"nothing", rfl, by decide +kernel, by decide +kernel, by decide +kernel⟩
  | 4, _ => ⟨"x", rfl, by decide +kernel, by decide +kernel, by decide +kernel⟩
  | 5, _ => ⟨"things", rfl, by decide +kernel, by decide +kernel, by decide +kernel⟩
  | 6, _ => ⟨"none", rfl, by decide +kernel, by decide +kernel, by decide +kernel⟩
  | 7, _ => ⟨"i", rfl, by decide +kernel, by decide +kernel, by decide +kernel⟩
/-- the names drawn so far -/
structure DrawnN (xs : List Str) : Prop where
  nd : xs.Nodup
  each : ∀ (j : Nat) x, xs[j]? = some x → GoodX x ∨ (x = rep8 j ∧ j < 4)
theorem rep8_letters {k : Nat} (h : k < 4) : ∀ c ∈ TL.tl (rep8 k), 97 ≤ c ∧ c ≤ 122 := fun c hc => by
  rw [tl_rep8] at hc
  simp only [List.mem_cons, List.not_mem_nil, or_false] at hc
  omega
theorem rep8_len (k : Nat) : (rep8 k).length = 8 := by
  rw [TL.len_tl, tl_rep8]
  rfl
theorem DrawnN.good {xs : List Str} (h : DrawnN xs) (hl : xs.length ≤ 4) : GoodN xs := by
  have key : ∀ x ∈ xs, (∀ c ∈ TL.tl x, 97 ≤ c ∧ c ≤ 122) ∧ x.length ≤ 8 ∧ 1 ≤ x.length := fun x hx => by
    obtain ⟨j, hj, e⟩ := List.getElem_of_mem hx
    rcases h.each j x (by rw [← e]; exact List.getElem?_eq_getElem hj) with g | ⟨rfl, h4⟩
    · exact ⟨g.small, Nat.le_succ_of_le g.short, g.some⟩
    · exact ⟨rep8_letters h4, by rw [rep8_len]; decide, by rw [rep8_len]; decide⟩
  exact ⟨hl, h.nd, fun x hx => (key x hx).1, fun x hx => (key x hx).2.1, fun x hx => (key x hx).2.2⟩
theorem DrawnN.snoc {xs : List Str} {x : Str} (h : DrawnN xs) (hn : x ∉ xs) (hx : GoodX x ∨ (x = rep8 xs.length ∧ xs.length < 4)) : DrawnN (xs ++ [x]) := by
  refine ⟨?_, fun j y hy => ?_⟩
  · refine List.nodup_append.mpr ⟨h.nd, List.nodup_cons.mpr ⟨by simp, List.nodup_nil⟩, fun a ha b hb => ?_⟩
    rw [List.mem_singleton.mp hb]
    exact fun e => hn (e ▸ ha)
  · by_cases hj : j < xs.length
    · rw [List.getElem?_append_left hj] at hy
      exact h.each j y hy
    · have e : j = xs.length := by
        have := (List.getElem?_eq_some_iff.mp hy).1
        rw [List.length_append] at this
        have : j < xs.length + 1 := this
        omega
      subst e
      rw [List.getElem?_append_right (Nat.le_refl _), Nat.sub_self] at hy
      cases Option.some.inj hy
      exact hx
theorem DrawnN.other {xs : List Str} (h : DrawnN xs) (h4 : xs.length < 4) : rep8 xs.length ∉ xs := fun z => by
  obtain ⟨j, hj, e⟩ := List.getElem_of_mem z
  have hg : xs[j]? = some (rep8 xs.length) := by rw [List.getElem?_eq_getElem hj, e]
  rcases h.each j _ hg with g | ⟨e2, _⟩
  · have := g.short
    rw [rep8_len] at this
    omega
  · have e3 := congrArg TL.tl e2
    rw [tl_rep8, tl_rep8] at e3
    have := (List.cons.inj e3).1
    omega
/-- letters put together -/
theorem joinL_flat : ∀ ps : List (List Nat), TL.joinL [] ps = ps.flatten
  | [] => rfl
  | [p] => by show p = p ++ [] ; rw [List.append_nil]
  | p :: q :: r => by
    show p ++ ([] ++ TL.joinL [] (q :: r)) = p ++ (q :: r).flatten
    rw [List.nil_append, joinL_flat (q :: r)]
def Letter (y : Str) : Prop := ∃ c, TL.tl y = [c] ∧ 97 ≤ c ∧ c ≤ 122
theorem flat_letters : ∀ ys : List Str, (∀ y ∈ ys, Letter y) → (ys.map TL.tl).flatten.length = ys.length ∧ ∀ c ∈ (ys.map TL.tl).flatten, 97 ≤ c ∧ c ≤ 122
  | [], _ => ⟨rfl, fun c hc => nomatch hc⟩
  | y :: r, h => by
    obtain ⟨h1, h2⟩ := flat_letters r fun z hz => h z (List.mem_cons_of_mem _ hz)
    obtain ⟨c0, e, hc⟩ := h y List.mem_cons_self
    rw [List.map_cons, List.flatten_cons, e]
    refine ⟨by rw [List.length_append, h1]; show 1 + r.length = r.length + 1; omega, fun c hc' => ?_⟩
    rcases List.mem_append.mp hc' with z | z
    · rw [List.mem_singleton.mp z]
      exact hc
    · exact h2 c z
theorem join_letters {ys : List Str} (h : ∀ y ∈ ys, Letter y) (h1 : 1 ≤ ys.length) (h7 : ys.length ≤ 7) : GoodX (Txt.join ("" : Str) ys) := by
  obtain ⟨e1, e2⟩ := flat_letters ys h
  have et : TL.tl (Txt.join ("" : Str) ys) = (ys.map TL.tl).flatten := by
    rw [TL.join_eq, TL.tl_join, show TL.tl ("" : Str) = [] by decide +kernel, joinL_flat]
  have el : (Txt.join ("" : Str) ys).length = ys.length := by rw [TL.len_tl, et, e1]
  exact ⟨fun c hc => e2 c (by rw [← et]; exact hc), by omega, by omega⟩
theorem letters_sum : ∀ ys : List Str, (∀ y ∈ ys, Letter y) → (ys.map (·.length)).sum = ys.length
  | [], _ => rfl
  | y :: r, h => by
    have ih := letters_sum r fun z hz => h z (List.mem_cons_of_mem _ hz)
    obtain ⟨c0, e, hc⟩ := h y List.mem_cons_self
    have : y.length = 1 := by rw [TL.len_tl, e]; rfl
    rw [List.map_cons, List.sum_cons, ih, this, List.length_cons]
    omega
theorem at_num {α : Type} {l : List α} {i : Int} {j : Nat} {v : α} (e : i = (j : Int)) (h : l[j]? = some v) : atI l i = some v := by
  subst e
  exact atI_nat h
theorem abc_at {j : Nat} (h : j < 26) : ("abcdefghijklmnopqrstuvwxyz" : Str).cps.toList[j]? = some (97 + j) := by
  have : ∀ j, j < 26 → ("abcdefghijklmnopqrstuvwxyz" : Str).cps.toList[j]? = some (97 + j) := by decide +kernel
  exact this j h
theorem abcd_at {j : Nat} (h : j < 4) : ("abcd" : Str).cps.toList[j]? = some (97 + j) := by
  have : ∀ j, j < 4 → ("abcd" : Str).cps.toList[j]? = some (97 + j) := by decide +kernel
  exact this j h
theorem div_ok {j : Nat} (h : j < 7) : (0 : Int) < 100 * (1 + 2 * (0 + (j : Int)) * (0 + (j : Int))) ∧ 100 * (1 + 2 * (0 + (j : Int)) * (0 + (j : Int))) < 1073741824 :=
  match j, h with
  | 0, _ => by decide
  | 1, _ => by decide
  | 2, _ => by decide
  | 3, _ => by decide
  | 4, _ => by decide
  | 5, _ => by decide
  | 6, _ => by decide
def sp_law_names : Sp := fun vs H Q _ => ∃ (d : Addr) (ns : List Int) (m : Nat), vs = [.ref d, .int m] ∧ H d = some (LI ns) ∧ 1 ≤ m ∧ m ≤ 4 ∧
  ∀ H' p xs ns', SameBut d H H' → H p = none → p ≠ d → H' p = some (LS xs) → H' d = some (LI ns') → xs.length = m → GoodN xs → Q (.ref p) H'
section
variable {P : Program} {w : World} {K : PySem.W.Frag} {mg : Str → Option Value} {base : Heap} {T : List Addr}
theorem ok_law_names {f fp : Addr} {fd fdp : FuncData} {k : Nat} (M : Names mg) (D : Def K mg "_law_names" s_law_names ["_law_draws_here", "_law_many"] f fd) (D_law_pop : Def K mg "_law_pop" s_law_pop ["_law_draws_here"] fp fdp) : FnOk P w K mg base CX0 (k + 2) f fd ["_law_draws_here", "_law_many"] sp_law_names := by
  have G_law_pop : FnOk P w K mg base CX0 (k + 1) fp fdp ["_law_draws_here"] sp_pop := ok_pop D_law_pop
  refine D.F.ok sc_law_names (fun vs H Q E h => ?_) (fun cdv A outer s H vs Q E hr h => ?_)
  · obtain ⟨d, ns, m, rfl, _⟩ := h
    rfl
  · obtain ⟨d, ns, m, rfl, hd, hm1, hm4, q⟩ := h
    refine ⟨_, (pss_cons (ps_set (i := 2) sc_law_names.nd rfl (Or.inl rfl) (pe_lst (pa_cons pe_str (pa_cons pe_str (pa_cons pe_str (pa_cons pe_str (pa_cons pe_str (pa_cons pe_str (pa_cons pe_str (pa_cons pe_str pa_nil))))))))))
  (pss_cons (ps_set (i := 3) sc_law_names.nd rfl (Or.inl rfl) (pe_lst pa_nil))
  (pss_cons (ps_for PassesOwn.never rfl (pi_range1 (by rfl) M.range (pa_cons (pv 1) pa_nil)) (pg_name (i := 4) sc_law_names.nd rfl (Or.inl rfl))
   (pss_cons (ps_set (i := 5) sc_law_names.nd rfl (Or.inr rfl) (pe_call G_law_pop hr (by rfl) D_law_pop.g D_law_pop.F.kp D_law_pop.b .nil pass0 (pa_cons (pv 0) pa_nil)))
  (pss_cons (ps_set (i := 6) sc_law_names.nd rfl (Or.inr rfl) pe_str)
  (pss_cons (ps_set (i := 7) sc_law_names.nd rfl (Or.inl rfl) (pe_join pe_str (pe_lc (own := [("_law_j", 8)]) (by rfl) sc_law_names.nd (pi_range1 (by rfl) M.range (pa_cons (pe_op op_add pe_int (pe_op op_mod (pv 5) pe_int)) pa_nil)) (blkOk_by (own := [("_law_j", 8)]) (N := N_law_names) (sc := defScope s_law_names) (by decide +kernel)) (fun _ _ _ _ _ => (pg_name (i := 8) sc_law_names.nd rfl (Or.inl rfl))) (fun _ _ _ _ _ => pts_nil) (fun _ _ _ _ _ => (pe_ix ix_str (pv 6) (pe_op op_mod (pe_op op_fdiv (pv 5) (pe_op op_mul pe_int (pe_op op_add pe_int (pe_op op_mul (pe_op op_mul pe_int (pv 8)) (pv 8))))) pe_int) (fun _ _ => rfl))))))
  (pss_cutI (ps_if (pt_cmpR op_eq (pe_op op_mod (pe_op op_fdiv (pv 5) pe_int) pe_int) pe_int (nomark _))
   (pss_one (ps_set (i := 7) sc_law_names.nd rfl (Or.inl rfl) (pe_ix ix_list (pv 2) (pe_op op_mod (pe_op op_fdiv (pv 5) pe_int) pe_int) (fun _ _ => rfl))))
   pss_nil)
  (pss_cutI (ps_if (pt_cmpR op_in_seq (pv 7) (pv 3) (by rfl))
   (pss_one (ps_set (i := 7) sc_law_names.nd rfl (Or.inl rfl) (pe_op op_mulS (pe_ix ix_str pe_str (pv 4) (fun _ _ => rfl)) pe_int)))
   pss_nil)
  (pss_one (ps_expr (pe_bm PySem.F.plainAttrs_list PySem.F.slot_list_append PySem.F.type_list_append mt_append (pv 3) (pa_cons (pv 7) pa_nil))))))))))
  (pss_one (ps_ret (pv 3)))))), ?_⟩
    refine ⟨by show 8 ≤ sizeLine; decide, fun O nO => ⟨by decide, fun F nF => ?_⟩⟩
    have hO : upd (upd H O (.lst (oddW.map V.str))) F (.lst []) O = some (LS oddW) := (same_upd nF) _ _ upd_same
    have hF : upd (upd H O (.lst (oddW.map V.str))) F (.lst []) F = some (LS []) := upd_same
    have s0 := (same_upd (o := .lst (oddW.map V.str)) nO).trans (same_upd (o := .lst []) nF)
    have nF0 : H F = none := (same_upd nO).free nF
    have neFO : O ≠ F := ne_of_none upd_same nF
    have hd0 := s0 _ _ hd
    have neOd : O ≠ d := fun e => by rw [e, hd] at nO; cases nO
    have neFd : F ≠ d := fun e => by rw [e, hd] at nF0; cases nF0
    have hO' : (upd (upd H O (.lst [.str "for", .str "many", .str "with", .str "nothing", .str "x", .str "things", .str "none", .str "i"])) F (.lst [])) = upd (upd H O (.lst (oddW.map V.str))) F (.lst []) := rfl
    generalize hgen : upd (upd H O (.lst (oddW.map V.str))) F (.lst []) = H0 at hO hF s0 hd0 hO'
    refine ⟨_, rfl, _, rfl, by omega, by omega, for_range (n := ((m : Nat) : Int).toNat) (fun i σ H' => ∃ y4 y5 y6 y7, σ = [some (.ref d), some (.int m), some (.ref O), some (.ref F), y4, y5, y6, y7, none] ∧ SameBut d H H' ∧ H' O = some (LS oddW) ∧ (∃ ns', H' d = some (LI ns')) ∧ ∃ xs, H' F = some (LS xs) ∧ xs.length = i ∧ DrawnN xs) ?_ (fun i σ H1 hi hp => ?_) (fun σ H1 hp => ?_)⟩
    · exact ⟨none, none, none, none, rfl, hO' ▸ .of s0, hO' ▸ hO, ⟨_, hO' ▸ hd0⟩, [], hO' ▸ hF, rfl, ⟨List.nodup_nil, fun j x h => by simp at h⟩⟩
    · obtain ⟨y4, y5, y6, y7, rfl, s1, hO1, ⟨ns1, hd1⟩, xs, hF1, hl1, dr⟩ := hp
      rw [Int.toNat_natCast] at hi
      refine ⟨_, rfl, d, ns1, rfl, hd1, fun H2 s2 hd2 => ?_⟩
      generalize ns1.headD 0 = n0
      generalize ns1.tail = ns2 at hd2
      have hO2 := s2 _ _ neOd hO1
      have hF2 := s2 _ _ neFd hF1
      obtain ⟨cn, hc7, ec⟩ := mod_at (i := n0) (n := 7) (by decide)
      refine ⟨⟨_, rfl⟩, _, rfl, _, _, rfl, rfl, (by show (0 : Int) < _; decide), _, _, rfl, rfl, _, rfl, by show -(2 ^ 62) ≤ 1 + n0 % 7; omega, by show 1 + n0 % 7 < 2 ^ 62; omega, fun B nB => lc_range (lo := 0) (n := (1 + n0 % 7).toNat) (fun j H' => Same H2 H' ∧ ∃ ys, H' B = some (LS ys) ∧ ys.length = j ∧ ∀ y ∈ ys, Letter y) ⟨same_upd nB, [], upd_same, rfl, fun y hy => nomatch hy⟩ (fun j H3 hj hp => ?_) (fun H3 hp => ?_)⟩
      · obtain ⟨s3, ys, hB, hly, hle⟩ := hp
        have hj7 : j < 7 := by omega
        obtain ⟨jj, hjj, ej⟩ := mod_at (i := n0 / (100 * (1 + 2 * (0 + (j : Int)) * (0 + (j : Int))))) (n := 26) (by decide)
        refine ⟨rfl, _, rfl, _, rfl, _, rfl, _, _, rfl, rfl, .inl ⟨by decide, by decide⟩, _, rfl, _, _, rfl, rfl, .inr ⟨by omega, by omega⟩, _, _, rfl, rfl, _, _, rfl, rfl, .inl ⟨by decide, by decide⟩, _, _, rfl, rfl, div_ok hj7, _, _, rfl, rfl, (by show (0 : Int) < _; decide), _, _, 97 + jj, rfl, rfl, by decide +kernel, at_num ej (abc_at hjj), ?_⟩
        refine ⟨_, hB, szL' (by rw [List.length_map]; omega), sm_new s3 nB, ys ++ [_], by rw [upd_same, ls_app], by rw [List.length_append, hly]; rfl, fun y hy => ?_⟩
        rcases List.mem_append.mp hy with z | z
        · exact hle y z
        · rw [List.mem_singleton.mp z]
          exact ⟨97 + jj, rfl, by omega, by omega⟩
      · obtain ⟨s3, ys, hB, hly, hle⟩ := hp
        have s13 : SameBut d H H3 := (s1.trans s2).trans (.of s3)
        have hO3 := s3 _ _ hO2
        have hF3 := s3 _ _ hF2
        have hd3 := s3 _ _ hd2
        have gx := join_letters hle (by omega) (by omega)
        have sm := letters_sum ys hle
        refine ⟨_, B, ys, rfl, rfl, .inl (SqL.of hB), by rw [sm, show ("" : Str).length = 0 by decide +kernel]; omega, ?_⟩
        generalize Txt.join ("" : Str) ys = x0 at gx
        -- an odd word
        refine ⟨fun σ H' => ∃ x, σ = [some (.ref d), some (.int m), some (.ref O), some (.ref F), some (.int (0 + (i : Nat))), some (.int n0), some (.str "abcdefghijklmnopqrstuvwxyz"), some (.str x), none] ∧ H' = H3 ∧ GoodX x, ⟨_, rfl, _, _, rfl, rfl, ⟨by decide, by decide⟩, _, _, rfl, rfl, (by show (0 : Int) < _; decide), rfl, _, rfl, ite2 (fun _ => ?_) (fun _ => ?_)⟩, fun σ' H' hI => ?_⟩
        · obtain ⟨j8, h8, e8⟩ := mod_at (i := n0 / 21) (n := 8) (by decide)
          obtain ⟨x, hx, gx2⟩ := odd_good j8 h8
          exact ⟨_, rfl, _, rfl, _, _, rfl, rfl, ⟨by decide, by decide⟩, _, _, rfl, rfl, (by show (0 : Int) < _; decide), O, _, _, _, rfl, rfl, SqL.of hO3, at_of e8 hx, x, rfl, rfl, gx2⟩
        · exact ⟨x0, rfl, rfl, gx⟩
        · obtain ⟨x, rfl, rfl, gx⟩ := hI
          refine ⟨fun σ H4 => ∃ x, σ = [some (.ref d), some (.int m), some (.ref O), some (.ref F), some (.int (0 + (i : Nat))), some (.int n0), some (.str "abcdefghijklmnopqrstuvwxyz"), some (.str x), none] ∧ H4 = H' ∧ x ∉ xs ∧ (GoodX x ∨ (x = rep8 xs.length ∧ xs.length < 4)), ⟨_, rfl, _, rfl, F, _, rfl, .inl (SqL.of hF3), rfl, flat_strs xs, _, rfl, ite2 (fun c => ?_) (fun c => ?_)⟩, fun σ' H4 hI => ?_⟩
          · have h4 : xs.length < 4 := by omega
            refine ⟨_, rfl, _, _, 97 + i, rfl, rfl, by decide +kernel, at_num (Int.zero_add _) (abcd_at (by omega)), 97 + i, 8, rfl, rfl, by decide, by decide, rep8 xs.length, ?_, rfl, dr.other h4, .inr ⟨rfl, h4⟩⟩
            rw [hl1]
            rfl
          · refine ⟨x, rfl, rfl, fun z => ?_, .inl gx⟩
            refine c ?_
            show inV (.str x) (xs.map V.str) = true
            rw [inV_strs, decide_eq_true z]
          · obtain ⟨x, rfl, rfl, nx, gx⟩ := hI
            refine ⟨_, rfl, .inl ⟨rfl, _, SqL.of hF3⟩, _, rfl, F, _, _, rfl, rfl, hF3, szL' (by rw [List.length_map]; omega), ?_⟩
            refine ⟨_, _, _, _, rfl, s13.new nF0, ?_, ⟨ns2, ?_⟩, xs ++ [x], by rw [upd_same, ls_app], by rw [List.length_append, hl1]; rfl, dr.snoc nx gx⟩
            · rw [upd_ne neFO]
              exact hO3
            · rw [upd_ne (fun e => neFd e.symm)]
              exact hd3
    · obtain ⟨y4, y5, y6, y7, rfl, s1, hO1, ⟨ns1, hd1⟩, xs, hF1, hl1, dr⟩ := hp
      rw [Int.toNat_natCast] at hl1
      exact ⟨_, rfl, q H1 F xs ns1 s1 nF0 neFd hF1 hd1 hl1 (dr.good (by omega))⟩
end
/-! ### texts of offers -/
theorem tl_for : TL.tl (" for " : Str) = [32, 102, 111, 114, 32] := by decide +kernel
theorem tl_colon : TL.tl (": " : Str) = [58, 32] := by decide +kernel
theorem tl_manyW : TL.tl ("many " : Str) = [109, 97, 110, 121, 32] := by decide +kernel
theorem tl_withW : TL.tl ("with " : Str) = [119, 105, 116, 104, 32] := by decide +kernel
theorem for_len : (" for " : Str).length = 5 := by decide +kernel
theorem colon_len : (": " : Str).length = 2 := by decide +kernel
theorem comma_len : (", " : Str).length = 2 := by decide +kernel
theorem word5_len : ("many " : Str).length = 5 ∧ ("with " : Str).length = 5 := by decide +kernel
def tierS (t : Int × Int) : Str := numS t.1.toNat ++ (" for " : Str) ++ numS t.2.toNat
def tiersS (ts : List (Int × Int)) : Str := Str.join (", " : Str) (ts.map tierS)
def soldS (xs : List Str) (c : List Int) (p : Int) : Str := showM xs c ++ (" for " : Str) ++ numS p.toNat
def offerS (xs : List Str) : Ofr → Str
  | .pack c p => soldS xs c p
  | .many c ts => ("many " : Str) ++ (showM xs c ++ (": " : Str) ++ tiersS ts)
  | .add c p k => ("with " : Str) ++ (numS k.toNat ++ (": " : Str) ++ soldS xs c p)
theorem str_assoc (a b c : Str) : a ++ b ++ c = a ++ (b ++ c) := TL.ext_tl (by rw [TL.tl_append, TL.tl_append, TL.tl_append, TL.tl_append, List.append_assoc])
/-- the text's last « for » -/
theorem rpart_app (a : Str) (n : Nat) : Txt.rpartition (a ++ (" for " : Str) ++ numS n) (" for " : Str) = (a, (" for " : Str), numS n) := by
  have hy : TL.tl (" for " : Str) ≠ [] := by rw [tl_for]; exact fun z => nomatch z
  have et : TL.tl (a ++ (" for " : Str) ++ numS n) = TL.tl a ++ ([32, 102, 111, 114, 32] ++ TL.numL n) := by rw [TL.tl_append, TL.tl_append, tl_for, tl_numS, List.append_assoc]
  have la : a.length = (TL.tl a).length := TL.len_tl a
  have hit : StrLaws.At (a ++ (" for " : Str) ++ numS n) (" for " : Str) (a ++ (" for " : Str) ++ numS n).length a.length := by
    rw [TL.at_iff hy, et, la, List.drop_left, tl_for]
    exact TL.pre_self _ _
  have miss : ∀ k, a.length < k → ¬ StrLaws.At (a ++ (" for " : Str) ++ numS n) (" for " : Str) (a ++ (" for " : Str) ++ numS n).length k := fun k hk => by
    obtain ⟨j, rfl⟩ : ∃ j, k = (TL.tl a).length + (j + 1) := ⟨k - a.length - 1, by omega⟩
    have dr : ∀ c r, c ≠ 32 → TL.pre [32, 102, 111, 114, 32] (c :: r) = false := fun c r h => TL.pre_of_head _ _ h
    rw [TL.at_iff hy, et, tl_for, ← List.drop_drop, List.drop_left]
    have fg : ∀ c ∈ TL.numL n, c ≠ 32 ∧ c ≠ 102 := fun c hc => ⟨fun z => TL.numL_free (.inl (by decide)) (z ▸ hc), fun z => TL.numL_free (.inr (by decide)) (z ▸ hc)⟩
    match j with
    | 0 => rw [show (([32, 102, 111, 114, 32] : List Nat) ++ TL.numL n).drop (0 + 1) = 102 :: ([111, 114, 32] ++ TL.numL n) from rfl, dr _ _ (by decide)]; decide
    | 1 => rw [show (([32, 102, 111, 114, 32] : List Nat) ++ TL.numL n).drop (1 + 1) = 111 :: ([114, 32] ++ TL.numL n) from rfl, dr _ _ (by decide)]; decide
    | 2 => rw [show (([32, 102, 111, 114, 32] : List Nat) ++ TL.numL n).drop (2 + 1) = 114 :: ([32] ++ TL.numL n) from rfl, dr _ _ (by decide)]; decide
    | 3 =>
      rw [show (([32, 102, 111, 114, 32] : List Nat) ++ TL.numL n).drop (3 + 1) = 32 :: TL.numL n from rfl]
      intro z
      have e : (32 :: TL.numL n).take 5 = [32, 102, 111, 114, 32] := eq_of_beq z
      rw [List.take_succ_cons] at e
      have e2 := (List.cons.inj e).2
      have m : 102 ∈ (TL.numL n).take 4 := by rw [e2]; exact List.mem_cons_self
      exact (fg 102 (List.mem_of_mem_take m)).2 rfl
    | j + 4 =>
      rw [show (([32, 102, 111, 114, 32] : List Nat) ++ TL.numL n).drop (j + 4 + 1) = (TL.numL n).drop j from rfl]
      cases e : (TL.numL n).drop j with
      | nil => decide
      | cons c r =>
        have := (fg c (List.mem_of_mem_drop (by rw [e]; exact List.mem_cons_self))).1
        rw [dr _ _ this]
        decide
  have key : Builtin.Str.lastOccurrence (a ++ (" for " : Str) ++ numS n) (" for " : Str) 0 (a ++ (" for " : Str) ++ numS n).length = some a.length := by
    rcases StrLaws.last_spec (a ++ (" for " : Str) ++ numS n) (" for " : Str) with ⟨_, h⟩ | ⟨i, e, h1, h2⟩
    · exact absurd hit (h _)
    · rcases Nat.lt_trichotomy i a.length with z | z | z
      · exact absurd hit (h2 _ z)
      · rw [e, z]
      · exact absurd h1 (miss _ z)
  unfold Txt.rpartition
  rw [key]
  show (_, _, _) = _
  have e1 : Builtin.Str.strSub (a ++ (" for " : Str) ++ numS n) 0 a.length = a := TL.ext_tl (by
    rw [TL.tl_strSub, et, List.drop_zero, Nat.sub_zero, la]
    exact List.take_left)
  have e2 : Builtin.Str.strSub (a ++ (" for " : Str) ++ numS n) (a.length + (" for " : Str).length) (a ++ (" for " : Str) ++ numS n).length = numS n := TL.ext_tl (by
    rw [TL.tl_strSub_end, et, la, for_len, ← List.drop_drop, List.drop_left, tl_numS]
    rfl)
  rw [e1, e2]
/-- the signs of contents' text -/
theorem show_signs {xs : List Str} {cs : List Int} (g : GoodN xs) : ∀ c ∈ TL.tl (showM xs cs), c = 32 ∨ c = 44 ∨ (48 ≤ c ∧ c ≤ 57) ∨ (97 ≤ c ∧ c ≤ 122) := by
  unfold showM
  by_cases z : partsM xs cs xs.length = []
  · rw [if_pos z]
    decide +kernel
  · rw [if_neg z, TL.tl_join]
    have key : ∀ ps : List (List Nat), (∀ p ∈ ps, ∀ c ∈ p, c = 32 ∨ c = 44 ∨ (48 ≤ c ∧ c ≤ 57) ∨ (97 ≤ c ∧ c ≤ 122)) → ∀ c ∈ TL.joinL (TL.tl (", " : Str)) ps, c = 32 ∨ c = 44 ∨ (48 ≤ c ∧ c ≤ 57) ∨ (97 ≤ c ∧ c ≤ 122) := by
      intro ps
      induction ps with
      | nil => intro _ c hc; cases hc
      | cons p r ih =>
        intro h c hc
        cases r with
        | nil => exact h p List.mem_cons_self c hc
        | cons q r =>
          have hc' : c ∈ p ++ (TL.tl (", " : Str) ++ TL.joinL (TL.tl (", " : Str)) (q :: r)) := hc
          rcases List.mem_append.mp hc' with w | w
          · exact h p List.mem_cons_self c w
          · rcases List.mem_append.mp w with w | w
            · rw [tl_comma] at w
              simp only [List.mem_cons, List.not_mem_nil, or_false] at w
              omega
            · exact ih (fun p hp => h p (List.mem_cons_of_mem _ hp)) c w
    refine key _ fun p hp c hc => ?_
    obtain ⟨p', hp', rfl⟩ := List.mem_map.mp hp
    obtain ⟨i, hi, _, rfl⟩ := parts_all hp'
    unfold partAt at hc
    rw [tl_part] at hc
    rcases List.mem_append.mp hc with w | w
    · have : ¬ (c < 48 ∨ 57 < c) := fun q => TL.numL_free q w
      omega
    · rcases List.mem_cons.mp w with w | w
      · omega
      · have := g.small _ (name_at hi).2 _ w
        omega
theorem show_colon {xs : List Str} {cs : List Int} (g : GoodN xs) : 58 ∉ TL.tl (showM xs cs) := fun z => by
  have := show_signs g _ z
  omega
theorem many_part {xs : List Str} (g : GoodN xs) (c : List Int) (b : Str) : Txt.partition (showM xs c ++ (": " : Str) ++ b) (": " : Str) = (showM xs c, (": " : Str), b) := TL.partition_app tl_colon (show_colon g)
theorem add_part (n : Nat) (b : Str) : Txt.partition (numS n ++ (": " : Str) ++ b) (": " : Str) = (numS n, (": " : Str), b) := TL.partition_app tl_colon (by rw [tl_numS]; exact TL.numL_free (by decide))
theorem tier_part (t : Int × Int) : Txt.partition (tierS t) (" for " : Str) = (numS t.1.toNat, (" for " : Str), numS t.2.toNat) := TL.partition_app tl_for (by rw [tl_numS]; exact TL.numL_free (by decide))
theorem tier_comma (t : Int × Int) : 44 ∉ TL.tl (tierS t) := fun z => by
  unfold tierS at z
  rw [TL.tl_append, TL.tl_append, tl_numS, tl_numS, tl_for] at z
  rcases List.mem_append.mp z with z | z
  · rcases List.mem_append.mp z with z | z
    · exact TL.numL_free (by decide) z
    · revert z
      decide
  · exact TL.numL_free (by decide) z
theorem tiers_split {ts : List (Int × Int)} (h : ts ≠ []) : Txt.split (tiersS ts) (", " : Str) = ts.map tierS := by
  unfold tiersS
  rw [← TL.join_eq]
  refine TL.split_join tl_comma (by decide +kernel) (fun e => h (List.map_eq_nil_iff.mp e)) fun p hp => ?_
  obtain ⟨t, _, rfl⟩ := List.mem_map.mp hp
  exact tier_comma t
/-- startswith, removeprefix -/
theorem starts_iff (x y : Str) (hy : TL.tl y ≠ []) : Txt.startswith x y = TL.pre (TL.tl y) (TL.tl x) := by
  have h := TL.at_iff (x := x) hy 0
  rw [List.drop_zero] at h
  have e : Txt.startswith x y = true ↔ StrLaws.At x y x.length 0 := by
    unfold Txt.startswith StrLaws.At
    rw [Bool.and_eq_true, decide_eq_true_eq]
  rw [Bool.eq_iff_iff, e, h]
theorem starts_app (y b : Str) (hy : TL.tl y ≠ []) : Txt.startswith (y ++ b) y = true := by
  rw [starts_iff _ _ hy, TL.tl_append]
  exact TL.pre_self _ _
theorem starts_other {x y : Str} {c d : Nat} {r q : List Nat} (hx : TL.tl x = c :: r) (hy : TL.tl y = d :: q) (h : c ≠ d) : Txt.startswith x y = false := by
  rw [starts_iff _ _ (by rw [hy]; exact fun z => nomatch z), hx, hy]
  exact TL.pre_of_head _ _ h
theorem remove_app (y b : Str) (hy : TL.tl y ≠ []) : Txt.removeprefix (y ++ b) y = b := by
  have h : Txt.startswith (y ++ b) y = true := starts_app y b hy
  unfold Txt.startswith at h
  rw [Bool.and_eq_true] at h
  unfold Txt.removeprefix
  rw [if_pos h.2]
  show (if ((y ++ b).length - y.length == (y ++ b).length) = true then y ++ b else Builtin.Str.strSub (y ++ b) y.length (y ++ b).length) = b
  have l1 : 0 < y.length := by rw [TL.len_tl]; exact List.length_pos_iff.mpr hy
  rw [if_neg (by rw [str_len_app, beq_iff_eq]; omega)]
  refine TL.ext_tl ?_
  rw [TL.tl_strSub_end, TL.tl_append, TL.len_tl]
  exact List.drop_left
/-! ### show_offer, show_shop -/
theorem log12 {n : Nat} (h : n < 1000000000000) : ((n : Nat) : Int).natAbs.log2 < 1920 := by
  have h1 : n < 2 ^ 40 := Nat.lt_trans h (by decide)
  rw [Int.natAbs_natCast]
  by_cases z : n = 0
  · rw [z]
    decide
  · have := (Nat.log2_lt z).mpr h1
    omega
theorem num12 {n : Nat} (h : n < 1000000000000) : (numS n).length ≤ 12 := by
  rw [numS_len]
  exact TL.numL_len (by decide) (by omega)
theorem show_len {xs : List Str} {cs : List Int} (g : GoodN xs) (h : FitC xs cs) : (showM xs cs).length ≤ 48 := by
  unfold showM
  by_cases z : partsM xs cs xs.length = []
  · rw [if_pos z]
    decide +kernel
  · rw [if_neg z]
    exact joined_len g h
theorem FitO.fit {xs : List Str} {o : Ofr} (h : FitO xs.length o) : FitC xs o.cont := ⟨h.cont.1, h.cont.2⟩
theorem tier_len {t : Int × Int} (h1 : 0 ≤ t.1) (h2 : t.1 ≤ 99) (h3 : 0 ≤ t.2) (h4 : t.2 < 1000000000000) : (tierS t).length ≤ 20 := by
  have a : (numS t.1.toNat).length ≤ 2 := by
    rw [numS_len]
    exact TL.numL_len (by decide) (by omega)
  have b := num12 (n := t.2.toNat) (by omega)
  unfold tierS
  rw [str_len_app, str_len_app, for_len]
  omega
theorem join_len20 (y : Str) : ∀ ps : List Str, (∀ p ∈ ps, p.length ≤ 20) → (Str.join y ps).length ≤ ps.length * (20 + y.length)
  | [], _ => Nat.zero_le _
  | [p], h => by
    have := h p List.mem_cons_self
    show p.length ≤ (0 + 1) * (20 + y.length)
    omega
  | p :: q :: r, h => by
    have h1 := h p List.mem_cons_self
    have h2 := join_len20 y (q :: r) fun z hz => h z (List.mem_cons_of_mem _ hz)
    show (p ++ y ++ Str.join y (q :: r)).length ≤ ((q :: r).length + 1) * (20 + y.length)
    rw [str_len_app, str_len_app, Nat.add_mul]
    omega
theorem sum20 {ps : List Str} (h : ∀ p ∈ ps, p.length ≤ 20) : (ps.map (·.length)).sum ≤ ps.length * 20 := by
  induction ps with
  | nil => exact Nat.le_refl _
  | cons p r ih =>
    have h1 := h p List.mem_cons_self
    have h2 := ih fun z hz => h z (List.mem_cons_of_mem _ hz)
    rw [List.map_cons, List.sum_cons, List.length_cons]
    omega
/-- what is told of tiers -/
structure FitT (ts : List (Int × Int)) : Prop where
  pos : 1 ≤ ts.length
  few : ts.length ≤ 4
  each : ∀ t ∈ ts, 0 ≤ t.1 ∧ t.1 ≤ 99 ∧ 0 ≤ t.2 ∧ t.2 < 1000000000000
theorem FitT.of {ts : List (Int × Int)} (g : GoodT ts) (p : PriceT ts) : FitT ts := ⟨g.pos, g.few, fun t ht => ⟨by have := g.ge1 t ht; omega, by have := g.most t ht; omega, (p t ht).1, (p t ht).2⟩⟩
theorem FitT.lens {ts : List (Int × Int)} (h : FitT ts) : ∀ p ∈ ts.map tierS, p.length ≤ 20 := fun p hp => by
  obtain ⟨t, ht, rfl⟩ := List.mem_map.mp hp
  obtain ⟨h1, h2, h3, h4⟩ := h.each t ht
  exact tier_len h1 h2 h3 h4
theorem FitT.len {ts : List (Int × Int)} (h : FitT ts) : (tiersS ts).length ≤ 88 := by
  have h1 := join_len20 (", " : Str) _ h.lens
  have := h.few
  rw [List.length_map, comma_len] at h1
  unfold tiersS
  omega
/-- an offer that can be written -/
def TellO (xs : List Str) : Ofr → Prop
  | .pack c p => FitC xs c ∧ 0 ≤ p ∧ p < 1000000000000
  | .many c ts => FitC xs c ∧ FitT ts
  | .add c p k => FitC xs c ∧ 0 ≤ p ∧ p < 1000000000000 ∧ 0 ≤ k ∧ k < 100
theorem tell_of {xs : List Str} {os : List Ofr} {i : Nat} : ∀ {o : Ofr}, i < 100 → GoodO os i o → FitO xs.length o → TellO xs o
  | .pack c p, _, _, f => ⟨f.fit, f.2.2.1, f.2.2.2⟩
  | .many c ts, _, g, f => ⟨f.fit, FitT.of g f.2.2⟩
  | .add c p k, hi, ⟨j, e, hj, _⟩, f => ⟨f.fit, f.2.2.1, f.2.2.2, by omega, by omega⟩
theorem TellO.cont {xs : List Str} : ∀ {o : Ofr}, TellO xs o → FitC xs o.cont
  | .pack _ _, h => h.1
  | .many _ _, h => h.1
  | .add _ _ _, h => h.1
theorem TellO.len {xs : List Str} (g : GoodN xs) : ∀ {o : Ofr}, TellO xs o → (offerS xs o).length ≤ 200
  | .pack c p, h => by
    have a := show_len g h.1
    have b := num12 (n := p.toNat) (by have := h.2.1; have := h.2.2; omega)
    show (soldS xs c p).length ≤ 200
    unfold soldS
    rw [str_len_app, str_len_app, for_len]
    omega
  | .many c ts, h => by
    have a := show_len g h.1
    have b := h.2.len
    show (("many " : Str) ++ (showM xs c ++ (": " : Str) ++ tiersS ts)).length ≤ 200
    rw [str_len_app, str_len_app, str_len_app, colon_len, word5_len.1]
    omega
  | .add c p k, h => by
    have a := show_len g h.1
    have b := num12 (n := p.toNat) (by have := h.2.1; have := h.2.2.1; omega)
    have d := num12 (n := k.toNat) (by have := h.2.2.2.2; omega)
    show (("with " : Str) ++ (numS k.toNat ++ (": " : Str) ++ soldS xs c p)).length ≤ 200
    unfold soldS
    rw [str_len_app, str_len_app, str_len_app, str_len_app, str_len_app, colon_len, word5_len.2, for_len]
    omega
def sp_show_offer : Sp := fun vs H Q _ => ∃ (a v : Addr) (xs : List Str) (o : Ofr), vs = [.ref a, .ref v] ∧ H a = some (LS xs) ∧ OfrAt H v o ∧ GoodN xs ∧ TellO xs o ∧ ∀ H', Same H H' → Q (.str (offerS xs o)) H'
/-! ### read_goods, read_sold, read_tier, read_many, read_add, read_offer, read_shop -/
abbrev s_read_goods : Stmt := topS 20
abbrev N_read_goods : List Str := ["names", "text", "content"]
theorem sc_read_goods : FnScope N_read_goods ["names", "text"] (defScope s_read_goods) := ⟨rfl, rfl, rfl, by decide +kernel, rfl, by decide +kernel, by decide +kernel⟩

abbrev s_read_sold : Stmt := topS 21
abbrev N_read_sold : List Str := ["names", "text", "goods", "word", "price"]
theorem sc_read_sold : FnScope N_read_sold ["names", "text"] (defScope s_read_sold) := ⟨rfl, rfl, rfl, by decide +kernel, rfl, by decide +kernel, by decide +kernel⟩

abbrev s_read_tier : Stmt := topS 22
abbrev N_read_tier : List Str := ["text", "begin", "word", "price"]
theorem sc_read_tier : FnScope N_read_tier ["text"] (defScope s_read_tier) := ⟨rfl, rfl, rfl, by decide +kernel, rfl, by decide +kernel, by decide +kernel⟩

abbrev s_read_many : Stmt := topS 23
abbrev N_read_many : List Str := ["names", "text", "parts", "goods", "colon", "tiers", "part"]
theorem sc_read_many : FnScope N_read_many ["names", "text"] (defScope s_read_many) := ⟨rfl, rfl, rfl, by decide +kernel, rfl, by decide +kernel, by decide +kernel⟩

abbrev s_read_add : Stmt := topS 24
abbrev N_read_add : List Str := ["names", "text", "place", "colon", "sold", "content", "price"]
theorem sc_read_add : FnScope N_read_add ["names", "text"] (defScope s_read_add) := ⟨rfl, rfl, rfl, by decide +kernel, rfl, by decide +kernel, by decide +kernel⟩

abbrev s_read_offer : Stmt := topS 25
abbrev N_read_offer : List Str := ["names", "text", "content", "price"]
theorem sc_read_offer : FnScope N_read_offer ["names", "text"] (defScope s_read_offer) := ⟨rfl, rfl, rfl, by decide +kernel, rfl, by decide +kernel, by decide +kernel⟩

section
variable {X : Cx}
/-- x.rpartition(sep) -/
theorem mt_rpartition : MtR X "str.rpartition" (fun x xs H Q => ∃ a b, x = .str a ∧ xs = [.str b] ∧ (b.length == 0) = false ∧ a.length ≤ sizeLine ∧
    ∀ p, H p = none → Q (.ref p) (upd H p (.tup [.str (Txt.rpartition a b).1, .str (Txt.rpartition a b).2.1, .str (Txt.rpartition a b).2.2]))) := by
  intro pins s σ H x xs v us Q I rx rs h
  obtain ⟨a, b, rfl, rfl, hb, hz, h⟩ := h
  obtain ⟨t, rfl⟩ := rx
  cases rs with
  | cons r1 rs =>
    cases rs
    obtain ⟨u, rfl⟩ := r1
    refine call_meets F.slot_str_rpartition (typeIs_str _ _ _) F.entry_str_rpartition (F.args_str_rpartition_2 _ _) (meets_str_rpartition a b t u hb hz) ?_
    unfold Txt.rpartition at h
    revert h
    cases Builtin.Str.lastOccurrence a b 0 a.length with
    | none => intro h; exact laid_parts I h
    | some i => intro h; exact laid_parts I h
end
/-- contents of an offer: not all noughts, with at most 400 lesser ones -/
def Goods (xs : List Str) (c : List Int) : Prop := FitC xs c ∧ boundM c ≤ 400 ∧ ∃ x ∈ c, 0 < x
theorem Goods.any {xs : List Str} {c : List Int} (h : Goods xs c) : anyI c = true := by
  obtain ⟨x, hx, hp⟩ := h.2.2
  unfold anyI
  rw [List.any_eq_true]
  exact ⟨x, hx, by simp only [bne_iff_ne, ne_eq]; omega⟩
theorem Goods.parts {xs : List Str} {c : List Int} (h : Goods xs c) : partsM xs c xs.length ≠ [] := fun z => by
  obtain ⟨x, hx, hp⟩ := h.2.2
  have := parts_nil h.1 z
  rw [this] at hx
  have := (List.mem_replicate.mp hx).2
  omega
/-- the text begins with a figure -/
theorem Goods.head {xs : List Str} {c : List Int} (h : Goods xs c) : ∃ d r, TL.tl (showM xs c) = d :: r ∧ 48 ≤ d ∧ d ≤ 57 := by
  unfold showM
  rw [if_neg h.parts, TL.tl_join]
  cases e : partsM xs c xs.length with
  | nil => exact absurd e h.parts
  | cons p q =>
    obtain ⟨i, _, _, rfl⟩ := parts_all (xs := xs) (cs := c) (p := p) (by rw [e]; exact List.mem_cons_self)
    have ep : TL.tl (partAt xs c i) = TL.numL (c.getD i 0).toNat ++ 32 :: TL.tl (xs.getD i Str.empty) := tl_part _ _
    cases en : TL.numL (c.getD i 0).toNat with
    | nil => exact absurd en (TL.numL_ne _)
    | cons d r =>
      have hd : ¬ (d < 48 ∨ 57 < d) := fun z => TL.numL_free z (n := (c.getD i 0).toNat) (by rw [en]; exact List.mem_cons_self)
      rw [en] at ep
      rw [List.map_cons, ep]
      cases q with
      | nil => exact ⟨d, _, rfl, by omega, by omega⟩
      | cons q1 q2 => exact ⟨d, _, rfl, by omega, by omega⟩
def sp_read_goods (T : List Addr) : Sp := fun vs H Q _ => ∃ (a : Addr) (xs : List Str) (c : List Int), vs = [.ref a, .str (showM xs c)] ∧ H a = some (LS xs) ∧ GoodN xs ∧ Goods xs c ∧ Tb T H ∧
  ∀ H' p, Ext T H H' → H p = none → H' p = some (LI c) → Q (.ref p) H'
def sp_read_sold (T : List Addr) : Sp := fun vs H Q _ => ∃ (a : Addr) (xs : List Str) (c : List Int) (p : Int), vs = [.ref a, .str (soldS xs c p)] ∧ H a = some (LS xs) ∧ GoodN xs ∧ Goods xs c ∧ 0 ≤ p ∧ p < 1000000000000 ∧ Tb T H ∧
  ∀ H' t b, Ext T H H' → H b = none → H' t = some (.tup [.ref b, .int p]) → H' b = some (LI c) → Q (.ref t) H'
def sp_read_tier (T : List Addr) : Sp := fun vs H Q _ => ∃ (t : Int × Int), vs = [.str (tierS t)] ∧ 0 ≤ t.1 ∧ t.1 ≤ 99 ∧ 0 ≤ t.2 ∧ t.2 < 1000000000000 ∧ Tb T H ∧
  ∀ H' u, Ext T H H' → H u = none → H' u = some (.tup [.int t.1, .int t.2]) → Q (.ref u) H'
/-- an offer whose lists are new: S are its lists -/
def OwnO (H : Hp) (v : Addr) : Ofr → List Addr → Prop
  | .pack c p, S => ∃ b, S = [b] ∧ H v = some (.tup [.str "pack", .ref b, .int p]) ∧ H b = some (LI c)
  | .many c ts, S => ∃ b t, S = [b, t] ∧ H v = some (.tup [.str "many", .ref b, .ref t]) ∧ H b = some (LI c) ∧ TiersAt H t ts
  | .add c p k, S => ∃ b, S = [b] ∧ H v = some (.tup [.str "add", .ref b, .int p, .int k]) ∧ H b = some (LI c)
theorem OwnO.at {H : Hp} {v : Addr} : ∀ {o : Ofr} {S : List Addr}, OwnO H v o S → OfrAt H v o
  | .pack _ _, _, ⟨b, _, h1, h2⟩ => ⟨b, h1, h2⟩
  | .many _ _, _, ⟨b, t, _, h1, h2, h3⟩ => ⟨b, t, h1, h2, h3⟩
  | .add _ _ _, _, ⟨b, _, h1, h2⟩ => ⟨b, h1, h2⟩
theorem OwnO.ext {T : List Addr} {H H1 : Hp} (e : Ext T H H1) {v : Addr} : ∀ {o : Ofr} {S : List Addr}, OwnO H v o S → OwnO H1 v o S
  | .pack _ _, _, ⟨b, h0, h1, h2⟩ => ⟨b, h0, e.tup h1, e.lst h2⟩
  | .many _ _, _, ⟨b, t, h0, h1, h2, h3⟩ => ⟨b, t, h0, e.tup h1, e.lst h2, h3.ext e⟩
  | .add _ _ _, _, ⟨b, h0, h1, h2⟩ => ⟨b, h0, e.tup h1, e.lst h2⟩
/-- its lists stand -/
theorem OwnO.lists {H : Hp} {v : Addr} : ∀ {o : Ofr} {S : List Addr}, OwnO H v o S → ∀ x ∈ S, ∃ ys, H x = some (.lst ys)
  | .pack _ _, _, ⟨b, h0, h1, h2⟩, x, hx => by
    rw [h0] at hx
    rw [List.mem_singleton.mp hx]
    exact ⟨_, h2⟩
  | .many _ _, _, ⟨b, t, h0, h1, h2, us, h3, _⟩, x, hx => by
    rw [h0] at hx
    simp only [List.mem_cons, List.not_mem_nil, or_false] at hx
    rcases hx with rfl | rfl
    · exact ⟨_, h2⟩
    · exact ⟨_, h3⟩
  | .add _ _ _, _, ⟨b, h0, h1, h2⟩, x, hx => by
    rw [h0] at hx
    rw [List.mem_singleton.mp hx]
    exact ⟨_, h2⟩
/-- another list changes -/
theorem OwnO.upd {H : Hp} {v x : Addr} {ys zs : List V} (hx : H x = some (.lst ys)) : ∀ {o : Ofr} {S : List Addr}, x ∉ S → OwnO H v o S → OwnO (L2.upd H x (.lst zs)) v o S
  | .pack _ _, _, n, ⟨b, h0, h1, h2⟩ => by
    subst h0
    refine ⟨b, rfl, ?_, ?_⟩
    · rw [upd_ne (ne_of h1 hx (fun z => nomatch z))]; exact h1
    · rw [upd_ne (fun e => n (by rw [e]; exact List.mem_cons_self))]; exact h2
  | .many _ _, _, n, ⟨b, t, h0, h1, h2, us, h3, h4, h5⟩ => by
    subst h0
    refine ⟨b, t, rfl, ?_, ?_, us, ?_, h4, fun i u tt a b => ?_⟩
    · rw [upd_ne (ne_of h1 hx (fun z => nomatch z))]; exact h1
    · rw [upd_ne (fun e => n (by rw [e]; exact List.mem_cons_self))]; exact h2
    · rw [upd_ne (fun e => n (by rw [e]; exact List.mem_cons_of_mem _ List.mem_cons_self))]; exact h3
    · rw [upd_ne (ne_of (h5 i u tt a b) hx (fun z => nomatch z))]; exact h5 i u tt a b
  | .add _ _ _, _, n, ⟨b, h0, h1, h2⟩ => by
    subst h0
    refine ⟨b, rfl, ?_, ?_⟩
    · rw [upd_ne (ne_of h1 hx (fun z => nomatch z))]; exact h1
    · rw [upd_ne (fun e => n (by rw [e]; exact List.mem_cons_self))]; exact h2
/-- what may be read of an offer -/
def ReadO (xs : List Str) (o : Ofr) : Prop := TellO xs o ∧ Goods xs o.cont
def sp_read_offer (T : List Addr) : Sp := fun vs H Q _ => ∃ (a : Addr) (xs : List Str) (o : Ofr), vs = [.ref a, .str (offerS xs o)] ∧ H a = some (LS xs) ∧ GoodN xs ∧ ReadO xs o ∧ Tb T H ∧
  ∀ H' v S, Ext T H H' → OwnO H' v o S → (∀ x ∈ S, H x = none) → S.Nodup → Q (.ref v) H'
def sp_read_many (T : List Addr) : Sp := fun vs H Q _ => ∃ (a : Addr) (xs : List Str) (c : List Int) (ts : List (Int × Int)), vs = [.ref a, .str (showM xs c ++ (": " : Str) ++ tiersS ts)] ∧ H a = some (LS xs) ∧ GoodN xs ∧ Goods xs c ∧ FitT ts ∧ Tb T H ∧
  ∀ H' v S, Ext T H H' → OwnO H' v (.many c ts) S → (∀ x ∈ S, H x = none) → S.Nodup → Q (.ref v) H'
def sp_read_add (T : List Addr) : Sp := fun vs H Q _ => ∃ (a : Addr) (xs : List Str) (c : List Int) (p k : Int), vs = [.ref a, .str (numS k.toNat ++ (": " : Str) ++ soldS xs c p)] ∧ H a = some (LS xs) ∧ GoodN xs ∧ Goods xs c ∧ 0 ≤ p ∧ p < 1000000000000 ∧ 0 ≤ k ∧ k < 100 ∧ Tb T H ∧
  ∀ H' v S, Ext T H H' → OwnO H' v (.add c p k) S → (∀ x ∈ S, H x = none) → S.Nodup → Q (.ref v) H'
section
variable {P : Program} {w : World} {K : PySem.W.Frag} {mg : Str → Option Value} {base : Heap} {T : List Addr}
theorem ok_read_goods {f f1 : Addr} {fd fd1 : FuncData} {k : Nat} (M : Names mg) (D : Def K mg "read_goods" s_read_goods ["names", "text"] f fd) (D_read_content : Def K mg "read_content" s_read_content ["names", "text"] f1 fd1) (G_read_content : FnOk P w K mg base CX0 k f1 fd1 ["names", "text"] (sp_read_content T)) : FnOk P w K mg base CX0 (k + 1) f fd ["names", "text"] (sp_read_goods T) := by
  refine D.F.ok sc_read_goods (fun vs H Q E h => ?_) (fun cdv A outer s H vs Q E hr h => ?_)
  · obtain ⟨a, xs, c, rfl, _⟩ := h
    rfl
  · obtain ⟨a, xs, c, rfl, ha, g, gs, hT, q⟩ := h
    refine ⟨_, (pss_cons (ps_set (i := 2) sc_read_goods.nd rfl (Or.inl rfl) (pe_call G_read_content hr (by rfl) D_read_content.g D_read_content.F.kp D_read_content.b .nil pass0 (pa_cons (pv 0) (pa_cons (pv 1) pa_nil))))
  (pss_cons (ps_if (pt_not (pt_val (pe_callB (cr_anyI rfl) (by rfl) M.any (by decide +kernel) (pa_cons (pv 2) pa_nil))))
   (pss_one ps_never)
   pss_nil)
  (pss_one (ps_ret (pv 2))))), ?_⟩
    refine ⟨_, rfl, _, rfl, a, xs, c, rfl, ha, g, gs.1, gs.2.1, hT, fun H1 p E1 np hp => ?_⟩
    refine ⟨_, rfl, p, c, rfl, SqL.of hp, true, by rw [gs.any], _, rfl, q H1 p E1 np hp⟩
theorem ok_read_sold {f f1 f2 : Addr} {fd fd1 fd2 : FuncData} {k : Nat} (M : Names mg) (D : Def K mg "read_sold" s_read_sold ["names", "text"] f fd) (D_read_goods : Def K mg "read_goods" s_read_goods ["names", "text"] f1 fd1) (G_read_goods : FnOk P w K mg base CX0 k f1 fd1 ["names", "text"] (sp_read_goods T)) (D_read_number : Def K mg "read_number" s_read_number ["text", "figures"] f2 fd2) (G_read_number : FnOk P w K mg base CX0 k f2 fd2 ["text", "figures"] (sp_read_number T)) : FnOk P w K mg base CX0 (k + 1) f fd ["names", "text"] (sp_read_sold T) := by
  obtain ⟨tF, m_PRICE_FIGURES⟩ := M.c_PRICE_FIGURES
  refine D.F.ok sc_read_sold (fun vs H Q E h => ?_) (fun cdv A outer s H vs Q E hr h => ?_)
  · obtain ⟨a, xs, c, p, rfl, _⟩ := h
    rfl
  · obtain ⟨a, xs, c, p, rfl, ha, g, gs, p0, p1, hT, q⟩ := h
    obtain ⟨n, rfl⟩ := Int.eq_ofNat_of_zero_le p0
    have hn : n < 1000000000000 := by omega
    have sl := show_len g gs.1
    have nl := num12 hn
    refine ⟨_, (pss_cons (ps_asg (pe_m1 PySem.F.slot_str_rpartition PySem.F.type_str_rpartition mt_rpartition (pv 1) pe_str) (pg_tup rfl (pgs_cons (pg_name (i := 2) sc_read_sold.nd rfl (Or.inl rfl)) (pgs_cons (pg_name (i := 3) sc_read_sold.nd rfl (Or.inl rfl)) (pgs_cons (pg_name (i := 4) sc_read_sold.nd rfl (Or.inl rfl)) pgs_nil)))))
  (pss_one (ps_ret (pe_tup (pa_cons (pe_call G_read_goods hr (by rfl) D_read_goods.g D_read_goods.F.kp D_read_goods.b .nil pass0 (pa_cons (pv 0) (pa_cons (pv 2) pa_nil))) (pa_cons (pe_call G_read_number hr (by rfl) D_read_number.g D_read_number.F.kp D_read_number.b .nil pass0 (pa_cons (pv 4) (pa_cons (pe_glob (v := .int 12) (by rfl) m_PRICE_FIGURES ⟨_, rfl⟩) pa_nil))) pa_nil)))))), ?_⟩
    refine ⟨_, rfl, ⟨_, rfl⟩, _, _, rfl, rfl, by decide +kernel, szL (by show (showM xs c ++ (" for " : Str) ++ numS n).length ≤ _; rw [str_len_app, str_len_app, for_len]; omega), fun t nt => ?_⟩
    have e : Txt.rpartition (soldS xs c (n : Int)) (" for " : Str) = (showM xs c, (" for " : Str), numS n) := rpart_app _ _
    rw [e]
    have s1 := same_upd (o := .tup [.str (showM xs c), .str (" for " : Str), .str (numS n)]) nt
    refine ⟨t, _, rfl, SqT.of upd_same, rfl, _, _, rfl, _, _, rfl, _, _, rfl, rfl, ?_⟩
    have E1 : Ext T H _ := .same s1 hT
    generalize upd H t (.tup [.str (showM xs c), .str (" for " : Str), .str (numS n)]) = H1 at s1 E1 ⊢
    refine ⟨_, rfl, _, rfl, a, xs, c, rfl, s1 _ _ ha, g, gs, E1.t1, fun H2 b E2 nb hb => ?_⟩
    refine ⟨_, rfl, n, 12, rfl, by omega, by decide, by decide, E2.t1, fun H3 E3 => ⟨by show 2 ≤ sizeLine; decide, fun u nu => ?_⟩⟩
    have E13 := (E1.trans E2).trans E3
    have nb0 := E1.free _ nb
    exact q _ u b (E13.new (E13.free _ nu)) nb0 upd_same ((same_upd nu) _ _ (E3.lst hb))
theorem ok_read_tier {f f2 : Addr} {fd fd2 : FuncData} {k : Nat} (M : Names mg) (D : Def K mg "read_tier" s_read_tier ["text"] f fd) (D_read_number : Def K mg "read_number" s_read_number ["text", "figures"] f2 fd2) (G_read_number : FnOk P w K mg base CX0 k f2 fd2 ["text", "figures"] (sp_read_number T)) : FnOk P w K mg base CX0 (k + 1) f fd ["text"] (sp_read_tier T) := by
  obtain ⟨tF, m_PRICE_FIGURES⟩ := M.c_PRICE_FIGURES
  obtain ⟨tG, m_PLACE_FIGURES⟩ := M.c_PLACE_FIGURES
  refine D.F.ok sc_read_tier (fun vs H Q E h => ?_) (fun cdv A outer s H vs Q E hr h => ?_)
  · obtain ⟨t, rfl, _⟩ := h
    rfl
  · obtain ⟨⟨b, p⟩, rfl, b0, b1, p0, p1, hT, q⟩ := h
    have tl := tier_len (t := (b, p)) b0 b1 p0 p1
    obtain ⟨m, rfl⟩ := Int.eq_ofNat_of_zero_le b0
    obtain ⟨n, rfl⟩ := Int.eq_ofNat_of_zero_le p0
    have hm : m < 10 ^ 2 := by have : ((m : Nat) : Int) ≤ 99 := b1; omega
    have hn : n < 10 ^ 12 := by have : ((n : Nat) : Int) < 1000000000000 := p1; omega
    refine ⟨_, (pss_cons (ps_asg (pe_partition (pv 0) pe_str) (pg_tup rfl (pgs_cons (pg_name (i := 1) sc_read_tier.nd rfl (Or.inl rfl)) (pgs_cons (pg_name (i := 2) sc_read_tier.nd rfl (Or.inl rfl)) (pgs_cons (pg_name (i := 3) sc_read_tier.nd rfl (Or.inl rfl)) pgs_nil)))))
  (pss_one (ps_ret (pe_tup (pa_cons (pe_call G_read_number hr (by rfl) D_read_number.g D_read_number.F.kp D_read_number.b .nil pass0 (pa_cons (pv 1) (pa_cons (pe_glob (v := .int 2) (by rfl) m_PLACE_FIGURES ⟨_, rfl⟩) pa_nil))) (pa_cons (pe_call G_read_number hr (by rfl) D_read_number.g D_read_number.F.kp D_read_number.b .nil pass0 (pa_cons (pv 3) (pa_cons (pe_glob (v := .int 12) (by rfl) m_PRICE_FIGURES ⟨_, rfl⟩) pa_nil))) pa_nil)))))), ?_⟩
    refine ⟨_, rfl, ⟨_, rfl⟩, _, _, rfl, rfl, by decide +kernel, szL (by omega), fun t nt => ?_⟩
    have e : Txt.partition (tierS ((m : Int), (n : Int))) (" for " : Str) = (numS m, (" for " : Str), numS n) := tier_part _
    rw [e]
    have s1 := same_upd (o := .tup [.str (numS m), .str (" for " : Str), .str (numS n)]) nt
    refine ⟨t, _, rfl, SqT.of upd_same, rfl, _, _, rfl, _, _, rfl, _, _, rfl, rfl, ?_⟩
    have E1 : Ext T H _ := .same s1 hT
    generalize upd H t (.tup [.str (numS m), .str (" for " : Str), .str (numS n)]) = H1 at s1 E1 ⊢
    refine ⟨_, rfl, m, 2, rfl, hm, by decide, by decide, E1.t1, fun H2 E2 => ?_⟩
    refine ⟨_, rfl, n, 12, rfl, hn, by decide, by decide, E2.t1, fun H3 E3 => ⟨by show 2 ≤ sizeLine; decide, fun u nu => ?_⟩⟩
    have E13 := (E1.trans E2).trans E3
    exact q _ u (E13.new (E13.free _ nu)) (E13.free _ nu) upd_same
theorem ok_read_many {f f1 f2 : Addr} {fd fd1 fd2 : FuncData} {k : Nat} (M : Names mg) (D : Def K mg "read_many" s_read_many ["names", "text"] f fd) (D_read_goods : Def K mg "read_goods" s_read_goods ["names", "text"] f1 fd1) (G_read_goods : FnOk P w K mg base CX0 k f1 fd1 ["names", "text"] (sp_read_goods T)) (D_read_tier : Def K mg "read_tier" s_read_tier ["text"] f2 fd2) (G_read_tier : FnOk P w K mg base CX0 k f2 fd2 ["text"] (sp_read_tier T)) : FnOk P w K mg base CX0 (k + 1) f fd ["names", "text"] (sp_read_many T) := by
  obtain ⟨tF, m_MOST_TIERS⟩ := M.c_MOST_TIERS
  refine D.F.ok sc_read_many (fun vs H Q E h => ?_) (fun cdv A outer s H vs Q E hr h => ?_)
  · obtain ⟨a, xs, c, ts, rfl, _⟩ := h
    rfl
  · obtain ⟨a, xs, c, ts, rfl, ha, g, gs, ft, hT, q⟩ := h
    have sl := show_len g gs.1
    have tl := ft.len
    have few := ft.few
    have pos := ft.pos
    have tne : ts ≠ [] := fun z => by rw [z] at pos; exact absurd pos (by decide)
    refine ⟨_, (pss_cons (ps_asg (pe_partition (pv 1) pe_str) (pg_tup rfl (pgs_cons (pg_name (i := 3) sc_read_many.nd rfl (Or.inl rfl)) (pgs_cons (pg_name (i := 4) sc_read_many.nd rfl (Or.inl rfl)) (pgs_cons (pg_name (i := 5) sc_read_many.nd rfl (Or.inl rfl)) pgs_nil)))))
  (pss_cons (ps_set (i := 2) sc_read_many.nd rfl (Or.inl rfl) (pe_split (pv 5) pe_str))
  (pss_cons (ps_if (pt_cmpR op_gt (pe_callB call_len_seq (by rfl) M.len (by decide +kernel) (pa_cons (pv 2) pa_nil)) (pe_glob (v := .int 4) (by rfl) m_MOST_TIERS ⟨_, rfl⟩) (nomark _))
   (pss_one ps_never)
   pss_nil)
  (pss_one (ps_ret (pe_tup (pa_cons pe_str (pa_cons (pe_call G_read_goods hr (by rfl) D_read_goods.g D_read_goods.F.kp D_read_goods.b .nil pass0 (pa_cons (pv 0) (pa_cons (pv 3) pa_nil))) (pa_cons (pe_lc (own := [("part", 6)]) (by rfl) sc_read_many.nd (pi_list (pv 2)) (blkOk_by (own := [("part", 6)]) (N := N_read_many) (sc := defScope s_read_many) (by decide +kernel)) (fun _ _ _ _ _ => (pg_name (i := 6) sc_read_many.nd rfl (Or.inl rfl))) (fun _ _ _ _ _ => pts_nil) (fun _ _ _ _ _ => (pe_call G_read_tier hr (by rfl) D_read_tier.g D_read_tier.F.kp D_read_tier.b .nil pass0 (pa_cons (pv 6) pa_nil)))) pa_nil))))))))), ?_⟩
    refine ⟨_, rfl, ⟨_, rfl⟩, _, _, rfl, rfl, by decide +kernel, szL (by rw [str_len_app, str_len_app, colon_len]; omega), fun t nt => ?_⟩
    rw [many_part g]
    have s1 := same_upd (o := .tup [.str (showM xs c), .str (": " : Str), .str (tiersS ts)]) nt
    refine ⟨t, _, rfl, SqT.of upd_same, rfl, _, _, rfl, _, _, rfl, _, _, rfl, rfl, ?_⟩
    have E1 : Ext T H _ := .same s1 hT
    generalize upd H t (.tup [.str (showM xs c), .str (": " : Str), .str (tiersS ts)]) = H1 at s1 E1 ⊢
    refine ⟨_, rfl, ⟨_, rfl⟩, _, _, rfl, rfl, by decide +kernel, szL (by show (tiersS ts).length + 2 ≤ _; omega), fun L nL => ?_⟩
    rw [tiers_split tne]
    have s2 := s1.trans (same_upd (o := .lst ((ts.map tierS).map V.str)) nL)
    have hL : upd H1 L (.lst ((ts.map tierS).map V.str)) L = some (LS (ts.map tierS)) := upd_same
    have E2 : Ext T H _ := .same s2 hT
    generalize upd H1 L (.lst ((ts.map tierS).map V.str)) = H2 at s2 E2 hL ⊢
    refine ⟨_, rfl, L, _, rfl, .inl (SqL.of hL), _, _, rfl, rfl, false, by rw [List.length_map, List.length_map]; exact congrArg V.bl (decide_eq_false (by omega)), ?_⟩
    refine ⟨_, rfl, _, rfl, a, xs, c, rfl, s2 _ _ ha, g, gs, E2.t1, fun H3 b E3 nb hb => ?_⟩
    have E03 := E2.trans E3
    have hL3 := E3.lst hL
    have nb0 := E2.free _ nb
    refine ⟨_, rfl, L, rfl, ⟨_, SqL.of hL3⟩, fun B nB => lc_list (xs := (ts.map tierS).map V.str) (fun i H' => Ext T H3 H' ∧ ∃ us : List Addr, H' B = some (.lst (us.map V.ref)) ∧ us.length = i ∧ ∀ (j : Nat) u (tt : Int × Int), us[j]? = some u → ts[j]? = some tt → H' u = some (.tup [.int tt.1, .int tt.2])) ⟨(Ext.refl E3.t1).new nB, [], upd_same, rfl, fun j u tt h => by simp at h⟩ (fun i H' _ hp => SqL.of (hp.1.lst hL3)) (fun i x H4 hx hp => ?_) (fun H4 hp => ?_)⟩
    · obtain ⟨E4, us, hB, hlu, hus⟩ := hp
      obtain ⟨x', hx', rfl⟩ := of_get_strs hx
      have hi : i < ts.length := by
        have := (List.getElem?_eq_some_iff.mp hx').1
        rw [List.length_map] at this
        exact this
      have gt := List.getElem?_eq_getElem hi
      obtain ⟨t1, t2, t3, t4⟩ := ft.each _ (List.getElem_mem hi)
      rw [List.getElem?_map, gt] at hx'
      cases Option.some.inj hx'
      refine ⟨rfl, _, rfl, ts[i], rfl, t1, t2, t3, t4, E4.t1, fun H5 u E5 nu hu => ?_⟩
      have hB5 := E5.lst hB
      have neuB : u ≠ B := fun e => by rw [e, hB] at nu; cases nu
      refine ⟨_, hB5, szL' (by rw [List.length_map]; omega), (E4.trans E5).new nB, us ++ [u], ?_, by rw [List.length_append, hlu]; rfl, fun j u' tt h1 h2 => ?_⟩
      · rw [upd_same, List.map_append]
        rfl
      · by_cases hj : j < us.length
        · rw [List.getElem?_append_left hj] at h1
          have h3 := E5.tup (hus j u' tt h1 h2)
          rw [upd_ne (ne_of h3 hB5 (fun z => nomatch z))]
          exact h3
        · have hj2 : j = us.length := by
            have := (List.getElem?_eq_some_iff.mp h1).1
            rw [List.length_append] at this
            have : j < us.length + 1 := this
            omega
          subst hj2
          rw [List.getElem?_append_right (Nat.le_refl _), Nat.sub_self] at h1
          cases Option.some.inj h1
          rw [hlu, gt] at h2
          cases Option.some.inj h2
          rw [upd_ne neuB]
          exact hu
    · obtain ⟨E4, us, hB, hlu, hus⟩ := hp
      rw [List.length_map, List.length_map] at hlu
      refine ⟨by show 3 ≤ sizeLine; decide, fun v nv => ?_⟩
      have E04 := E03.trans E4
      have hb4 := E4.lst hb
      have nBb : b ≠ B := fun e => by rw [e] at hb; rw [hb] at nB; cases nB
      refine q _ v [b, B] (E04.new (E04.free _ nv)) ⟨b, B, rfl, upd_same, (same_upd nv) _ _ hb4, us, (same_upd nv) _ _ hB, hlu, fun j u tt h1 h2 => (same_upd nv) _ _ (hus j u tt h1 h2)⟩ (fun x hx => ?_) (List.nodup_cons.mpr ⟨fun z => nBb (List.mem_singleton.mp z), List.nodup_cons.mpr ⟨by simp, List.nodup_nil⟩⟩)
      simp only [List.mem_cons, List.not_mem_nil, or_false] at hx
      rcases hx with rfl | rfl
      · exact nb0
      · exact E03.free _ nB
theorem ok_read_add {f f1 f2 : Addr} {fd fd1 fd2 : FuncData} {k : Nat} (M : Names mg) (D : Def K mg "read_add" s_read_add ["names", "text"] f fd) (D_read_sold : Def K mg "read_sold" s_read_sold ["names", "text"] f1 fd1) (G_read_sold : FnOk P w K mg base CX0 k f1 fd1 ["names", "text"] (sp_read_sold T)) (D_read_number : Def K mg "read_number" s_read_number ["text", "figures"] f2 fd2) (G_read_number : FnOk P w K mg base CX0 k f2 fd2 ["text", "figures"] (sp_read_number T)) : FnOk P w K mg base CX0 (k + 1) f fd ["names", "text"] (sp_read_add T) := by
  obtain ⟨tG, m_PLACE_FIGURES⟩ := M.c_PLACE_FIGURES
  refine D.F.ok sc_read_add (fun vs H Q E h => ?_) (fun cdv A outer s H vs Q E hr h => ?_)
  · obtain ⟨a, xs, c, p, k, rfl, _⟩ := h
    rfl
  · obtain ⟨a, xs, c, p, k, rfl, ha, g, gs, p0, p1, k0, k1, hT, q⟩ := h
    obtain ⟨m, rfl⟩ := Int.eq_ofNat_of_zero_le k0
    have hm : m < 10 ^ 2 := by omega
    have ml := num12 (n := m) (by omega)
    have sl := show_len g gs.1
    have nl := num12 (n := p.toNat) (by omega)
    refine ⟨_, (pss_cons (ps_asg (pe_partition (pv 1) pe_str) (pg_tup rfl (pgs_cons (pg_name (i := 2) sc_read_add.nd rfl (Or.inl rfl)) (pgs_cons (pg_name (i := 3) sc_read_add.nd rfl (Or.inl rfl)) (pgs_cons (pg_name (i := 4) sc_read_add.nd rfl (Or.inl rfl)) pgs_nil)))))
  (pss_cons (ps_asg (pe_call G_read_sold hr (by rfl) D_read_sold.g D_read_sold.F.kp D_read_sold.b .nil pass0 (pa_cons (pv 0) (pa_cons (pv 4) pa_nil))) (pg_tup rfl (pgs_cons (pg_name (i := 5) sc_read_add.nd rfl (Or.inl rfl)) (pgs_cons (pg_name (i := 6) sc_read_add.nd rfl (Or.inl rfl)) pgs_nil))))
  (pss_one (ps_ret (pe_tup (pa_cons pe_str (pa_cons (pv 5) (pa_cons (pv 6) (pa_cons (pe_call G_read_number hr (by rfl) D_read_number.g D_read_number.F.kp D_read_number.b .nil pass0 (pa_cons (pv 2) (pa_cons (pe_glob (v := .int 2) (by rfl) m_PLACE_FIGURES ⟨_, rfl⟩) pa_nil))) pa_nil))))))))), ?_⟩
    refine ⟨_, rfl, ⟨_, rfl⟩, _, _, rfl, rfl, by decide +kernel, szL (by show (numS m ++ (": " : Str) ++ (showM xs c ++ (" for " : Str) ++ numS p.toNat)).length ≤ _; rw [str_len_app, str_len_app, str_len_app, str_len_app, colon_len, for_len]; omega), fun t nt => ?_⟩
    have e : Txt.partition (numS (((m : Nat) : Int)).toNat ++ (": " : Str) ++ soldS xs c p) (": " : Str) = (numS m, (": " : Str), soldS xs c p) := add_part _ _
    rw [e]
    have s1 := same_upd (o := .tup [.str (numS m), .str (": " : Str), .str (soldS xs c p)]) nt
    refine ⟨t, _, rfl, SqT.of upd_same, rfl, _, _, rfl, _, _, rfl, _, _, rfl, rfl, ?_⟩
    have E1 : Ext T H _ := .same s1 hT
    generalize upd H t (.tup [.str (numS m), .str (": " : Str), .str (soldS xs c p)]) = H1 at s1 E1 ⊢
    refine ⟨_, rfl, _, rfl, a, xs, c, p, rfl, s1 _ _ ha, g, gs, p0, p1, E1.t1, fun H2 u b E2 nb hu hb => ?_⟩
    refine ⟨u, _, rfl, SqT.of hu, rfl, _, _, rfl, _, _, rfl, rfl, ?_⟩
    refine ⟨_, rfl, _, rfl, _, rfl, m, 2, rfl, hm, by decide, by decide, E2.t1, fun H3 E3 => ⟨by show 4 ≤ sizeLine; decide, fun v nv => ?_⟩⟩
    have E13 := (E1.trans E2).trans E3
    exact q _ v [b] (E13.new (E13.free _ nv)) ⟨b, rfl, upd_same, (same_upd nv) _ _ (E3.lst hb)⟩ (fun x hx => by rw [List.mem_singleton.mp hx]; exact E1.free _ nb) (List.nodup_cons.mpr ⟨by simp, List.nodup_nil⟩)
theorem ok_read_offer {f f1 f2 f3 : Addr} {fd fd1 fd2 fd3 : FuncData} {k : Nat} (M : Names mg) (D : Def K mg "read_offer" s_read_offer ["names", "text"] f fd) (D_read_many : Def K mg "read_many" s_read_many ["names", "text"] f1 fd1) (G_read_many : FnOk P w K mg base CX0 k f1 fd1 ["names", "text"] (sp_read_many T)) (D_read_add : Def K mg "read_add" s_read_add ["names", "text"] f2 fd2) (G_read_add : FnOk P w K mg base CX0 k f2 fd2 ["names", "text"] (sp_read_add T)) (D_read_sold : Def K mg "read_sold" s_read_sold ["names", "text"] f3 fd3) (G_read_sold : FnOk P w K mg base CX0 k f3 fd3 ["names", "text"] (sp_read_sold T)) : FnOk P w K mg base CX0 (k + 1) f fd ["names", "text"] (sp_read_offer T) := by
  refine D.F.ok sc_read_offer (fun vs H Q E h => ?_) (fun cdv A outer s H vs Q E hr h => ?_)
  · obtain ⟨a, xs, o, rfl, _⟩ := h
    rfl
  · obtain ⟨a, xs, o, rfl, ha, g, ⟨tl, gs⟩, hT, q⟩ := h
    have ll := TellO.len g tl
    have nm : TL.tl ("many " : Str) ≠ [] := by rw [tl_manyW]; exact fun z => nomatch z
    have nw : TL.tl ("with " : Str) ≠ [] := by rw [tl_withW]; exact fun z => nomatch z
    refine ⟨_, (pss_cons (ps_if (pt_val (pe_m1 PySem.F.slot_str_startswith PySem.F.type_str_startswith mt_startswith (pv 1) pe_str))
   (pss_one (ps_ret (pe_call G_read_many hr (by rfl) D_read_many.g D_read_many.F.kp D_read_many.b .nil pass0 (pa_cons (pv 0) (pa_cons (pe_m1 PySem.F.slot_str_removeprefix PySem.F.type_str_removeprefix mt_removeprefix (pv 1) pe_str) pa_nil)))))
   pss_nil)
  (pss_cons (ps_if (pt_val (pe_m1 PySem.F.slot_str_startswith PySem.F.type_str_startswith mt_startswith (pv 1) pe_str))
   (pss_one (ps_ret (pe_call G_read_add hr (by rfl) D_read_add.g D_read_add.F.kp D_read_add.b .nil pass0 (pa_cons (pv 0) (pa_cons (pe_m1 PySem.F.slot_str_removeprefix PySem.F.type_str_removeprefix mt_removeprefix (pv 1) pe_str) pa_nil)))))
   pss_nil)
  (pss_cons (ps_asg (pe_call G_read_sold hr (by rfl) D_read_sold.g D_read_sold.F.kp D_read_sold.b .nil pass0 (pa_cons (pv 0) (pa_cons (pv 1) pa_nil))) (pg_tup rfl (pgs_cons (pg_name (i := 2) sc_read_offer.nd rfl (Or.inl rfl)) (pgs_cons (pg_name (i := 3) sc_read_offer.nd rfl (Or.inl rfl)) pgs_nil))))
  (pss_one (ps_ret (pe_tup (pa_cons pe_str (pa_cons (pv 2) (pa_cons (pv 3) pa_nil))))))))), ?_⟩
    cases o with
    | many c ts =>
      have e1 : Txt.startswith (offerS xs (.many c ts)) ("many " : Str) = true := starts_app _ _ nm
      have e2 : Txt.removeprefix (offerS xs (.many c ts)) ("many " : Str) = showM xs c ++ (": " : Str) ++ tiersS ts := remove_app _ _ nm
      refine ⟨_, rfl, ⟨_, rfl⟩, _, _, rfl, rfl, true, by rw [e1], ?_⟩
      refine ⟨_, rfl, _, rfl, ⟨_, rfl⟩, _, _, rfl, rfl, szL (by omega), a, xs, c, ts, by rw [e2]; rfl, ha, g, gs, tl.2, hT, q⟩
    | add c p k =>
      have e0 : Txt.startswith (offerS xs (.add c p k)) ("many " : Str) = false := starts_other (c := 119) (d := 109) (by show TL.tl (("with " : Str) ++ _) = _; rw [TL.tl_append, tl_withW]; rfl) tl_manyW (by decide)
      have e1 : Txt.startswith (offerS xs (.add c p k)) ("with " : Str) = true := starts_app _ _ nw
      have e2 : Txt.removeprefix (offerS xs (.add c p k)) ("with " : Str) = numS k.toNat ++ (": " : Str) ++ soldS xs c p := remove_app _ _ nw
      obtain ⟨fc, p0, p1, k0, k1⟩ := tl
      refine ⟨_, rfl, ⟨_, rfl⟩, _, _, rfl, rfl, false, by rw [e0], ?_⟩
      refine ⟨_, rfl, ⟨_, rfl⟩, _, _, rfl, rfl, true, by rw [e1], ?_⟩
      refine ⟨_, rfl, _, rfl, ⟨_, rfl⟩, _, _, rfl, rfl, szL (by omega), a, xs, c, p, k, by rw [e2]; rfl, ha, g, gs, p0, p1, k0, k1, hT, q⟩
    | pack c p =>
      obtain ⟨d, r, ed, d0, d1⟩ := Goods.head gs
      have et : ∃ r', TL.tl (offerS xs (.pack c p)) = d :: r' := ⟨r ++ TL.tl (" for " : Str) ++ TL.tl (numS p.toNat), by
        show TL.tl (showM xs c ++ (" for " : Str) ++ numS p.toNat) = _
        rw [TL.tl_append, TL.tl_append, show TL.tl (showM xs c) = d :: r from ed]
        rfl⟩
      obtain ⟨r', et⟩ := et
      have e0 : Txt.startswith (offerS xs (.pack c p)) ("many " : Str) = false := starts_other et tl_manyW (by omega)
      have e1 : Txt.startswith (offerS xs (.pack c p)) ("with " : Str) = false := starts_other et tl_withW (by omega)
      obtain ⟨fc, p0, p1⟩ := tl
      refine ⟨_, rfl, ⟨_, rfl⟩, _, _, rfl, rfl, false, by rw [e0], ?_⟩
      refine ⟨_, rfl, ⟨_, rfl⟩, _, _, rfl, rfl, false, by rw [e1], ?_⟩
      refine ⟨_, rfl, _, rfl, a, xs, c, p, rfl, ha, g, gs, p0, p1, hT, fun H1 u b E1 nb hu hb => ?_⟩
      refine ⟨u, _, rfl, SqT.of hu, rfl, _, _, rfl, _, _, rfl, rfl, ?_⟩
      refine ⟨_, rfl, _, rfl, by show 3 ≤ sizeLine; decide, fun v nv => ?_⟩
      exact q _ v [b] (E1.new (E1.free _ nv)) ⟨b, rfl, upd_same, (same_upd nv) _ _ hb⟩ (fun x hx => by rw [List.mem_singleton.mp hx]; exact nb) (List.nodup_cons.mpr ⟨by simp, List.nodup_nil⟩)
end
abbrev s_read_shop : Stmt := topS 26
abbrev N_read_shop : List Str := ["names", "rows", "shop", "at", "row"]
theorem sc_read_shop : FnScope N_read_shop ["names", "rows"] (defScope s_read_shop) := ⟨rfl, rfl, rfl, by decide +kernel, rfl, by decide +kernel, by decide +kernel⟩

/-! ### read_shop, _law_offer_text, _law_right -/
/-- a told shop: its lists are new and stand at one place alone -/
structure Told (H H' : Hp) (q : Addr) (vs : List Addr) (os : List Ofr) (Ss : List (List Addr)) : Prop where
  atq : H' q = some (.lst (vs.map V.ref))
  len : vs.length = os.length
  lenS : Ss.length = os.length
  each : ∀ (i : Nat) v o S, vs[i]? = some v → os[i]? = some o → Ss[i]? = some S → OwnO H' v o S
  new : ∀ S ∈ Ss, ∀ x ∈ S, H x = none
  newq : H q = none
  nq : ∀ S ∈ Ss, q ∉ S
  nd : ∀ S ∈ Ss, S.Nodup
  apart : ∀ (i j : Nat) S S', i < j → Ss[i]? = some S → Ss[j]? = some S' → ∀ x ∈ S, x ∉ S'
def sp_read_shop (T : List Addr) : Sp := fun vs H Q _ => ∃ (a r : Addr) (xs : List Str) (os : List Ofr), vs = [.ref a, .ref r] ∧ H a = some (LS xs) ∧ H r = some (LS (os.map (offerS xs))) ∧ GoodN xs ∧ (∀ o ∈ os, ReadO xs o) ∧ os.length ≤ 8 ∧ Tb T H ∧
  ∀ H' q us Ss, Ext T H H' → Told H H' q us os Ss → Q (.ref q) H'
theorem snoc_at {α : Type} {l : List α} {x y : α} {j : Nat} (h : (l ++ [x])[j]? = some y) : (j < l.length ∧ l[j]? = some y) ∨ (j = l.length ∧ y = x) := by
  by_cases hj : j < l.length
  · rw [List.getElem?_append_left hj] at h
    exact .inl ⟨hj, h⟩
  · have := (List.getElem?_eq_some_iff.mp h).1
    rw [List.length_append] at this
    have : j < l.length + 1 := this
    have e : j = l.length := by omega
    subst e
    rw [List.getElem?_append_right (Nat.le_refl _), Nat.sub_self] at h
    exact .inr ⟨rfl, (Option.some.inj h).symm⟩
section
variable {P : Program} {w : World} {K : PySem.W.Frag} {mg : Str → Option Value} {base : Heap} {T : List Addr}
theorem ok_read_shop {f f1 : Addr} {fd fd1 : FuncData} {k : Nat} (M : Names mg) (D : Def K mg "read_shop" s_read_shop ["names", "rows"] f fd) (D_read_offer : Def K mg "read_offer" s_read_offer ["names", "text"] f1 fd1) (G_read_offer : FnOk P w K mg base CX0 k f1 fd1 ["names", "text"] (sp_read_offer T)) : FnOk P w K mg base CX0 (k + 1) f fd ["names", "rows"] (sp_read_shop T) := by
  refine D.F.ok sc_read_shop (fun vs H Q E h => ?_) (fun cdv A outer s H vs Q E hr h => ?_)
  · obtain ⟨a, r, xs, os, rfl, _⟩ := h
    rfl
  · obtain ⟨a, r, xs, os, rfl, ha, hrr, g, rd, h8, hT, q⟩ := h
    refine ⟨_, (pss_cons (ps_set (i := 2) sc_read_shop.nd rfl (Or.inl rfl) (pe_lst pa_nil))
  (pss_cons (ps_for PassesOwn.never rfl (pi_enum (by rfl) M.enumerate (pa_cons (pv 1) pa_nil)) (pg_tup rfl (pgs_cons (pg_name (i := 3) sc_read_shop.nd rfl (Or.inl rfl)) (pgs_cons (pg_name (i := 4) sc_read_shop.nd rfl (Or.inl rfl)) pgs_nil)))
   (pss_one (ps_try_thru0 (pss_one (ps_expr (pe_bm PySem.F.plainAttrs_list PySem.F.slot_list_append PySem.F.type_list_append mt_append (pv 2) (pa_cons (pe_call G_read_offer hr (by rfl) D_read_offer.g D_read_offer.F.kp D_read_offer.b .nil pass0 (pa_cons (pv 0) (pa_cons (pv 4) pa_nil))) pa_nil)))))))
  (pss_one (ps_ret (pv 2))))), ?_⟩
    refine ⟨by decide, fun B nB => ?_⟩
    have s0 := same_upd (o := .lst []) nB
    refine ⟨_, rfl, r, _, rfl, SqL.of (s0 _ _ hrr), for_it (walk_enum (K := K) (a := r) (xs := (os.map (offerS xs)).map V.str)) (fun i σ H' => ∃ y3 y4 us Ss, σ = [some (.ref a), some (.ref r), some (.ref B), y3, y4] ∧ Ext T H H' ∧ Told H H' B us (os.take i) Ss) ⟨none, none, [], [], rfl, .same s0 hT, ⟨upd_same, rfl, rfl, fun i v o S h => by simp at h, (fun S h => by cases h), nB, (fun S h => by cases h), (fun S h => by cases h), fun i j S S' _ h => by simp at h⟩⟩ (fun i σ H' _ hp => ?_) (fun i x σ H1 H2 hi hp hy => ?_) (fun σ H1 hp => ?_)⟩
    · obtain ⟨_, _, _, _, _, E1, _⟩ := hp
      exact SqL.of (E1.lst hrr)
    · obtain ⟨y3, y4, us, Ss, rfl, E1, td⟩ := hp
      obtain ⟨Tt, x1, x2, rfl, nT, rfl, e1, e2⟩ := hy
      cases Option.some.inj e1
      obtain ⟨tx, htx, rfl⟩ := of_get_strs e2
      rw [List.length_map, List.length_map] at hi
      have go := List.getElem?_eq_getElem hi
      rw [List.getElem?_map, go] at htx
      cases Option.some.inj htx
      have E2 : Ext T H (upd H1 Tt (.tup [.int (i : Nat), .str (offerS xs os[i])])) := E1.new (E1.free _ nT)
      have s12 := same_upd (o := .tup [.int (i : Nat), .str (offerS xs os[i])]) nT
      have hTt : upd H1 Tt (.tup [.int (i : Nat), .str (offerS xs os[i])]) Tt = some (.tup [.int (i : Nat), .str (offerS xs os[i])]) := upd_same
      have hq2 := s12 _ _ td.atq
      have E12 : Ext T H1 (upd H1 Tt (.tup [.int (i : Nat), .str (offerS xs os[i])])) := .same s12 E1.t1
      generalize upd H1 Tt (.tup [.int (i : Nat), .str (offerS xs os[i])]) = H2 at E2 s12 hTt hq2 E12 ⊢
      refine ⟨Tt, _, rfl, SqT.of hTt, rfl, _, _, rfl, _, _, rfl, rfl, ?_⟩
      refine ⟨_, rfl, .inl ⟨rfl, _, SqL.of hq2⟩, _, rfl, _, rfl, a, xs, os[i], rfl, E2.lst ha, g, rd _ (List.getElem_mem hi), E2.t1, fun H3 v S E3 ow nS ndS => ?_⟩
      have hq3 := E3.lst hq2
      have E13 := E12.trans E3
      have lu : us.length = i := by rw [td.len, List.length_take]; omega
      have lS : Ss.length = i := by rw [td.lenS, List.length_take]; omega
      have nBS : B ∉ S := fun z => by
        have := nS B z
        rw [hq2] at this
        cases this
      refine ⟨B, _, _, rfl, rfl, hq3, szL' (by rw [List.length_map]; omega), _, _, us ++ [v], Ss ++ [S], rfl, (E2.trans E3).new nB, ?_⟩
      refine ⟨by rw [upd_same, List.map_append]; rfl, by rw [take_succ_at go, List.length_append, List.length_append, td.len]; rfl, by rw [take_succ_at go, List.length_append, List.length_append, td.lenS]; rfl, fun j v' o' S' h1 h2 h3 => ?_, fun S' hS' x hx => ?_, nB, fun S' hS' => ?_, fun S' hS' => ?_, fun i' j' S1 S2 hij h1 h2 x hx => ?_⟩
      · rw [take_succ_at go] at h2
        rcases snoc_at h1 with ⟨l1, h1⟩ | ⟨l1, rfl⟩
        · rcases snoc_at h2 with ⟨l2, h2⟩ | ⟨l2, rfl⟩
          · rcases snoc_at h3 with ⟨l3, h3⟩ | ⟨l3, rfl⟩
            · have o1 := (td.each j v' o' S' h1 h2 h3).ext E13
              exact o1.upd hq3 (td.nq S' (List.mem_of_getElem? h3))
            · omega
          · rw [List.length_take] at l2
            omega
        · rcases snoc_at h2 with ⟨l2, h2⟩ | ⟨l2, rfl⟩
          · rw [List.length_take] at l2
            omega
          · rcases snoc_at h3 with ⟨l3, h3⟩ | ⟨l3, rfl⟩
            · omega
            · exact ow.upd hq3 nBS
      · rcases List.mem_append.mp hS' with z | z
        · exact td.new S' z x hx
        · rw [List.mem_singleton.mp z] at hx
          exact E2.free _ (nS x hx)
      · rcases List.mem_append.mp hS' with z | z
        · exact td.nq S' z
        · rw [List.mem_singleton.mp z]
          exact nBS
      · rcases List.mem_append.mp hS' with z | z
        · exact td.nd S' z
        · rw [List.mem_singleton.mp z]
          exact ndS
      · rcases snoc_at h1 with ⟨l1, g1⟩ | ⟨l1, rfl⟩
        · rcases snoc_at h2 with ⟨l2, g2⟩ | ⟨l2, rfl⟩
          · exact td.apart i' j' S1 S2 hij g1 g2 x hx
          · intro z
            have nx := nS x z
            have hio : i' < (os.take i).length := by rw [← td.lenS]; exact l1
            obtain ⟨ys, hy⟩ := (td.each i' (us[i']'(by rw [td.len]; exact hio)) ((os.take i)[i']) S1 (List.getElem?_eq_getElem _) (List.getElem?_eq_getElem _) g1).lists x hx
            rw [E12.lst hy] at nx
            cases nx
        · have := (List.getElem?_eq_some_iff.mp h2).1
          rw [List.length_append] at this
          have : j' < Ss.length + 1 := this
          omega
    · obtain ⟨y3, y4, us, Ss, rfl, E1, td⟩ := hp
      rw [List.length_map, List.length_map, List.take_length] at td
      exact ⟨_, rfl, q H1 B us Ss E1 td⟩
end
/-! ### _law_offer_text -/
abbrev s_law_offer_text : Stmt := topS 38
abbrev N_law_offer_text : List Str := ["_law_names_here", "_law_offer", "_law_content_here", "_law_start", "_law_price_here"]
theorem sc_law_offer_text : FnScope N_law_offer_text ["_law_names_here", "_law_offer"] (defScope s_law_offer_text) := ⟨rfl, rfl, rfl, by decide +kernel, rfl, by decide +kernel, by decide +kernel⟩

section
variable {P : Program} {w : World} {K : PySem.W.Frag} {mg : Str → Option Value} {base : Heap} {T : List Addr}
theorem ok_law_offer_text {f f1 : Addr} {fd fd1 : FuncData} {k : Nat} (M : Names mg) (D : Def K mg "_law_offer_text" s_law_offer_text ["_law_names_here", "_law_offer"] f fd) (D_law_content_text : Def K mg "_law_content_text" s_law_content_text ["_law_names_here", "_law_content_here"] f1 fd1) : FnOk P w K mg base CX0 (k + 2) f fd ["_law_names_here", "_law_offer"] sp_show_offer := by
  have G_law_content_text : FnOk P w K mg base CX0 (k + 1) f1 fd1 ["_law_names_here", "_law_content_here"] sp_law_text := ok_law_text M D_law_content_text
  refine D.F.ok sc_law_offer_text (fun vs H Q E h => ?_) (fun cdv A outer s H vs Q E hr h => ?_)
  · obtain ⟨a, v, xs, o, rfl, _⟩ := h
    rfl
  · obtain ⟨a, v, xs, o, rfl, ha, ho, g, tl, q⟩ := h
    have sl := show_len g tl.cont
    refine ⟨_, (pss_cons (ps_set (i := 2) sc_law_offer_text.nd rfl (Or.inl rfl) (pe_call G_law_content_text hr (by rfl) D_law_content_text.g D_law_content_text.F.kp D_law_content_text.b .nil pass0 (pa_cons (pv 0) (pa_cons (pe_ix ix_tup (pv 1) pe_int (fun _ _ => rfl)) pa_nil))))
  (pss_cons (ps_if (pt_cmpR op_eq (pe_ix ix_tup (pv 1) pe_int (fun _ _ => rfl)) pe_str (nomark _))
   (pss_one (ps_ret (pe_op op_add_str (pe_op op_add_str (pe_op op_add_str pe_str (pv 2)) pe_str) (pe_join pe_str (pe_lc (own := [("_law_start", 3), ("_law_price_here", 4)]) (by rfl) sc_law_offer_text.nd (pi_list (pe_ix ix_tup (pv 1) pe_int (fun _ _ => rfl))) (blkOk_by (own := [("_law_start", 3), ("_law_price_here", 4)]) (N := N_law_offer_text) (sc := defScope s_law_offer_text) (by decide +kernel)) (fun _ _ _ _ _ => (pg_tupK (K := K) (n := 2) rfl rfl (pgs_cons (pg_name (i := 3) sc_law_offer_text.nd rfl (Or.inl rfl)) (pgs_cons (pg_name (i := 4) sc_law_offer_text.nd rfl (Or.inl rfl)) pgs_nil)))) (fun _ _ _ _ _ => pts_nil) (fun _ _ _ _ _ => (pe_op op_add_str (pe_op op_add_str (pe_callTy call_str_int (by rfl) M.str (by decide +kernel) (pa_cons (pv 3) pa_nil)) pe_str) (pe_callTy call_str_int (by rfl) M.str (by decide +kernel) (pa_cons (pv 4) pa_nil)))))))))
   pss_nil)
  (pss_cons (ps_if (pt_cmpR op_eq (pe_ix ix_tup (pv 1) pe_int (fun _ _ => rfl)) pe_str (nomark _))
   (pss_one (ps_ret (pe_op op_add_str (pe_op op_add_str (pe_op op_add_str (pe_op op_add_str (pe_op op_add_str pe_str (pe_callTy call_str_int (by rfl) M.str (by decide +kernel) (pa_cons (pe_ix ix_tup (pv 1) pe_int (fun _ _ => rfl)) pa_nil))) pe_str) (pv 2)) pe_str) (pe_callTy call_str_int (by rfl) M.str (by decide +kernel) (pa_cons (pe_ix ix_tup (pv 1) pe_int (fun _ _ => rfl)) pa_nil)))))
   pss_nil)
  (pss_one (ps_ret (pe_op op_add_str (pe_op op_add_str (pv 2) pe_str) (pe_callTy call_str_int (by rfl) M.str (by decide +kernel) (pa_cons (pe_ix ix_tup (pv 1) pe_int (fun _ _ => rfl)) pa_nil)))))))), ?_⟩
    cases o with
    | pack c p =>
      obtain ⟨b, hv, hb⟩ := ho
      obtain ⟨fc, p0, p1⟩ := tl
      obtain ⟨n, rfl⟩ := Int.eq_ofNat_of_zero_le p0
      have hn : n < 1000000000000 := by omega
      have nl := num12 hn
      refine ⟨_, rfl, _, rfl, v, _, _, _, rfl, rfl, SqT.of hv, atI_nat (j := 1) rfl, a, b, xs, c, rfl, ha, hb, g, fc, fun H1 s1 => ?_⟩
      have hv1 := s1 _ _ hv
      refine ⟨_, rfl, v, _, _, _, rfl, rfl, SqT.of hv1, atI_nat (j := 0) rfl, rfl, false, rfl, ?_⟩
      refine ⟨_, rfl, v, _, _, _, rfl, rfl, SqT.of hv1, atI_nat (j := 0) rfl, rfl, false, rfl, ?_⟩
      have sl' : (showM xs c).length ≤ 48 := sl
      exact ⟨_, rfl, _, _, rfl, rfl, szL (by rw [for_len]; omega), _, rfl, v, _, _, _, rfl, rfl, SqT.of hv1, atI_nat (j := 2) rfl, _, rfl, log12 hn, _, _, rfl, rfl, szL (by rw [str_len_app, for_len]; show _ + (numS n).length ≤ _; omega), q H1 s1⟩
    | add c p k =>
      obtain ⟨b, hv, hb⟩ := ho
      obtain ⟨fc, p0, p1, k0, k1⟩ := tl
      obtain ⟨n, rfl⟩ := Int.eq_ofNat_of_zero_le p0
      obtain ⟨j, rfl⟩ := Int.eq_ofNat_of_zero_le k0
      have hn : n < 1000000000000 := by omega
      have hj : j < 1000000000000 := by omega
      have nl := num12 hn
      have jl := num12 hj
      refine ⟨_, rfl, _, rfl, v, _, _, _, rfl, rfl, SqT.of hv, atI_nat (j := 1) rfl, a, b, xs, c, rfl, ha, hb, g, fc, fun H1 s1 => ?_⟩
      have hv1 := s1 _ _ hv
      refine ⟨_, rfl, v, _, _, _, rfl, rfl, SqT.of hv1, atI_nat (j := 0) rfl, rfl, false, rfl, ?_⟩
      refine ⟨_, rfl, v, _, _, _, rfl, rfl, SqT.of hv1, atI_nat (j := 0) rfl, rfl, true, rfl, ?_⟩
      have sl' : (showM xs c).length ≤ 48 := sl
      have e : offerS xs (.add c (n : Int) (j : Int)) = ("with " : Str) ++ numS j ++ (": " : Str) ++ showM xs c ++ (" for " : Str) ++ numS n := by
        refine TL.ext_tl ?_
        show TL.tl (("with " : Str) ++ (numS j ++ (": " : Str) ++ (showM xs c ++ (" for " : Str) ++ numS n))) = _
        simp only [TL.tl_append, List.append_assoc]
      rw [e] at q
      have w5 := word5_len.2
      exact ⟨_, rfl, v, _, _, _, rfl, rfl, SqT.of hv1, atI_nat (j := 3) rfl, _, rfl, log12 hj, _, _, rfl, rfl, szL (by show _ + (numS j).length ≤ _; omega), _, _, rfl, rfl, szL (by rw [str_len_app, colon_len]; show _ + (numS j).length + _ ≤ _; omega), _, rfl, _, _, rfl, rfl, szL (by rw [str_len_app, str_len_app, colon_len]; show _ + (numS j).length + _ + _ ≤ _; omega), _, _, rfl, rfl, szL (by rw [str_len_app, str_len_app, str_len_app, colon_len, for_len]; show _ + (numS j).length + _ + _ + _ ≤ _; omega), _, rfl, v, _, _, _, rfl, rfl, SqT.of hv1, atI_nat (j := 2) rfl, _, rfl, log12 hn, _, _, rfl, rfl, szL (by rw [str_len_app, str_len_app, str_len_app, str_len_app, colon_len, for_len]; show _ + (numS j).length + _ + _ + _ + (numS n).length ≤ _; omega), q H1 s1⟩
    | many c ts =>
      obtain ⟨b, t, hv, hb, us, u1, u2, u3⟩ := ho
      obtain ⟨fc, ft⟩ := tl
      have few := ft.few
      refine ⟨_, rfl, _, rfl, v, _, _, _, rfl, rfl, SqT.of hv, atI_nat (j := 1) rfl, a, b, xs, c, rfl, ha, hb, g, fc, fun H1 s1 => ?_⟩
      have hv1 := s1 _ _ hv
      have u1' := s1 _ _ u1
      refine ⟨_, rfl, v, _, _, _, rfl, rfl, SqT.of hv1, atI_nat (j := 0) rfl, rfl, true, rfl, ?_⟩
      have sl' : (showM xs c).length ≤ 48 := sl
      have w5 := word5_len.1
      refine ⟨_, rfl, _, _, rfl, rfl, szL (by omega), _, _, rfl, rfl, szL (by rw [str_len_app, colon_len]; omega), ⟨_, rfl⟩, _, rfl, v, _, _, _, rfl, rfl, SqT.of hv1, atI_nat (j := 2) rfl, t, rfl, ⟨_, SqL.of u1'⟩, fun B nB => lc_list (xs := us.map V.ref) (fun i H' => Same H1 H' ∧ H' B = some (LS ((ts.take i).map tierS))) ⟨same_upd nB, upd_same⟩ (fun i H' _ hp => SqL.of (hp.1 _ _ u1')) (fun i x H2 hx hp => ?_) (fun H2 hp => ?_)⟩
      · obtain ⟨s2, hB⟩ := hp
        rw [List.getElem?_map] at hx
        cases hu : us[i]? with
        | none => rw [hu] at hx; cases hx
        | some u =>
          rw [hu] at hx
          cases Option.some.inj hx
          have hi : i < ts.length := by
            have := (List.getElem?_eq_some_iff.mp hu).1
            omega
          have gt := List.getElem?_eq_getElem hi
          obtain ⟨t1, t2, t3, t4⟩ := ft.each _ (List.getElem_mem hi)
          have hu2 := s2 _ _ (s1 _ _ (u3 i u _ hu gt))
          generalize ts[i] = tt at gt t1 t2 t3 t4 hu2
          obtain ⟨b1, p1⟩ := tt
          obtain ⟨b0, rfl⟩ := Int.eq_ofNat_of_zero_le t1
          obtain ⟨p0, rfl⟩ := Int.eq_ofNat_of_zero_le t3
          have l1 : b0 < 1000000000000 := by have : ((b0 : Nat) : Int) ≤ 99 := t2; omega
          have l2 : p0 < 1000000000000 := by have : ((p0 : Nat) : Int) < 1000000000000 := t4; omega
          have n1 := num12 l1
          have n2 := num12 l2
          refine ⟨u, _, rfl, SqT.of hu2, rfl, _, _, rfl, _, _, rfl, rfl, rfl, _, rfl, _, rfl, log12 l1, _, _, rfl, rfl, szL (by rw [for_len]; show (numS b0).length + _ ≤ _; omega), _, rfl, _, rfl, log12 l2, _, _, rfl, rfl, szL (by rw [str_len_app, for_len]; show (numS b0).length + _ + (numS p0).length ≤ _; omega), _, hB, szL' (by rw [List.length_map, List.length_map, List.length_take]; omega), sm_new s2 nB, ?_⟩
          rw [upd_same, ls_app, take_succ_at gt, List.map_append]
          rfl
      · obtain ⟨s2, hB⟩ := hp
        rw [List.length_map, u2, List.take_length] at hB
        have sm := sum20 ft.lens
        have tln := ft.len
        rw [List.length_map] at sm
        refine ⟨_, B, _, rfl, rfl, .inl (SqL.of hB), by rw [comma_len, List.length_map]; omega, ?_⟩
        rw [TL.join_eq]
        have e : offerS xs (.many c ts) = ("many " : Str) ++ showM xs c ++ (": " : Str) ++ tiersS ts := by
          refine TL.ext_tl ?_
          show TL.tl (("many " : Str) ++ (showM xs c ++ (": " : Str) ++ tiersS ts)) = _
          simp only [TL.tl_append, List.append_assoc]
        rw [e] at q
        have tln' : (Str.join (", " : Str) (ts.map tierS)).length ≤ 88 := tln
        exact ⟨_, _, rfl, rfl, szL (by rw [str_len_app, str_len_app, colon_len]; omega), q H2 (s1.trans s2)⟩
end
/-! ### an exception that is kept behind its except suite -/
/-- at a: an exception of the class cls, its dict d -/
def exk (a : Addr) (cls : Value) (d : Option Addr) : HO := .ext fun h => ∃ (ob : Obj) (fs : Array Value), h.get? a = some ob ∧ Zc cls d ob ∧ ob.data = .fields fs
theorem exk_ok {P : Program} {w : World} {H : Hp} {h : Heap} {a : Addr} {cls : Value} {d : Option Addr} {ob : Obj} {fs : Array Value} (e : h.get? a = some ob) (z : Zc cls d ob) (k : ob.data = .fields fs) : ObjOk P w H h a (exk a cls d) :=
  ⟨⟨ob, fs, e, z, k⟩, ⟨ob, e⟩, fun _ _ ⟨u, gs, q, r⟩ m => ⟨u, gs, m u q, r⟩⟩
theorem exk_at {P : Program} {w : World} {H : Hp} {h : Heap} {a : Addr} {cls : Value} {d : Option Addr} (all : HOk P w H h) (e : H a = some (exk a cls d)) : ∃ (ob : Obj) (fs : Array Value), h.get? a = some ob ∧ Zc cls d ob ∧ ob.data = .fields fs := by
  have here := all a _ e
  exact (show ObjOk P w H h a (.ext fun h => ∃ (ob : Obj) (fs : Array Value), h.get? a = some ob ∧ Zc cls d ob ∧ ob.data = .fields fs) from here).1
/-- an object that nobody followed is followed from now on: what was followed stands elsewhere -/
theorem upd_far {H : Hp} {a b : Addr} {o u : HO} (na : H a = none) (e : H b = some u) : upd H a o b = some u := by
  have far : b ≠ a := fun z => Option.some_ne_none u (e.symm.trans ((congrArg H z).trans na))
  exact (upd_ne far).trans e
theorem Inv_track {X : Cx} {pins : List (Addr × Obj)} {σ : L2.St} {H : Hp} {s : Shared} {a : Addr} {ob : Obj} {fs : Array Value} {o : HO} (I : Inv X pins σ H s) (ha : s.heap.get? a = some ob) (hd : ob.data = .fields fs) (na : H a = none)
    (n0 : X.s_0.heap.get? a = none) (nL : a ≠ X.env.locals) (np : ∀ p ∈ X.pn ++ pins, p.1 ≠ a) (ok : ObjOk X.prog X.w (upd H a o) s.heap a o) : Inv X pins σ (upd H a o) s := by
  have all : HOk X.prog X.w (upd H a o) s.heap := by
    intro b u e
    by_cases far : b = a
    · cases far
      cases upd_same.symm.trans e
      exact ok
    · exact (I.hok b u ((upd_ne far).symm.trans e)).stay (fun _ _ _ r => r) (fun _ r => upd_far na r) (fun _ _ r => upd_far na r)
  have noCell : ∀ x c, X.env.cells.lookup x = some c → c ≠ a := by
    intro x c e z
    obtain ⟨v, u, hu, du⟩ := I.cell x c e
    cases (congrArg s.heap.get? z).symm.trans hu |>.symm.trans ha
    exact Data.noConfusion (hd.symm.trans du)
  exact
    { ok := I.ok, os := I.os, bare := I.bare, loc := I.loc, cell := I.cell, len := I.len, hok := all
      free := (upd_ne nL.symm).trans I.free
      freeC := fun x c e => (upd_ne (noCell x c e)).trans (I.freeC x c e)
      pin := fun p hp => ⟨(I.pin p hp).1, (upd_ne (np p hp)).trans (I.pin p hp).2.1, (I.pin p hp).2.2⟩
      base :=
        { keep := I.base.keep, slot := I.base.slot, there := I.base.there
          free := fun b u e n x => (upd_ne fun z => Option.some_ne_none u (e.symm.trans ((congrArg X.s_0.heap.get? z).trans n0))).trans (I.base.free b u e n x)
          tups := fun b xs e => upd_far na (I.base.tups b xs e)
          frzs := fun b u xs e => upd_far na (I.base.frzs b u xs e)
          tbls := fun b ps e => (I.base.tbls b ps e).elim fun m r => ⟨m, upd_far na r⟩ } }
section
variable {X : Cx} {pins pins' : List (Addr × Obj)} {σ : L2.St} {H : Hp} {s : Shared} {a : Addr}
/-- into an except suite with nothing kept aside, and out of it -/
theorem Inv_suiteK (I : Inv X pins σ H s) (a : Addr) : Inv (X.suite a (X.pn ++ pins)) [] σ H s :=
  { ok := I.ok.suite a _, os := I.os, bare := I.bare, base := I.base, loc := I.loc, cell := I.cell, free := I.free, freeC := I.freeC, hok := I.hok, len := I.len
    pin := fun p hp => I.pin p ((List.append_nil (X.pn ++ pins)) ▸ hp) }
theorem Inv_unsuiteK (I : Inv (X.suite a (X.pn ++ pins)) pins' σ H s) (ok : X.Ok) : Inv X pins σ H s :=
  { ok := ok, os := I.os, bare := I.bare, base := I.base, loc := I.loc, cell := I.cell, free := I.free, freeC := I.freeC, hok := I.hok, len := I.len
    pin := fun p hp => I.pin p (List.mem_append.mpr (.inl hp)) }
/-- an end stands in another context as well -/
theorem sp_map {Y : Cx} {q : List (Addr × Obj)} {D : Ends} {f : Flow} (g : ∀ {σ H}, Inv X pins σ H s → Inv Y q σ H s) (x : SP X pins D f s) : SP Y q D f s := by
  cases f
  case ret => exact x.elim fun v x => x.elim fun σ x => x.elim fun H x => ⟨v, σ, H, g x.1, x.2⟩
  all_goals exact x.elim fun σ x => x.elim fun H x => ⟨σ, H, g x.1, x.2⟩
end
/-! ### a try with one clause, whatever the clause does -/
/-- an exception, at a, has fallen out of a try's body in the state sI; s' is the state in which it is looked at -/
structure Fell (X : Cx) (pins : List (Addr × Obj)) (B : Heap) (a : Addr) (σ : L2.St) (H : Hp) (sI s' : Shared) : Prop where
  was : Inv X pins σ H sI
  kept : ∀ b o, sI.heap.get? b = some o → b ∉ frs X.stack → B.get? b = some o
  unseen : H a = none
  world : s'.os = sI.os
  bare : AllBare s'.gens
/-- it flies through h -/
abbrev Air (X : Cx) (B : Heap) (a : Addr) (cls : Value) (d : Option Addr) (h : Heap) : Prop := HandSPX.FlyingZ B (X.env :: X.outer) a (Zc cls d) h
section
variable {X : Cx} {pins : List (Addr × Obj)} {B h : Heap} {a : Addr} {cls : Value} {d : Option Addr} {σ : L2.St} {H : Hp} {sI s' : Shared}
theorem Fell.stands (F : Fell X pins B a σ H sI s') (up : sI.heap.UpToSlots h) (air : Air X B a cls d h) : Inv X pins σ H { s' with heap := h } := F.was.landed F.kept air.1 up F.world F.bare
theorem Air.noFrame (air : Air X B a cls d h) : a ∉ frs (X.env :: X.outer) := by
  intro isOne
  obtain ⟨ob, fs, at_, _, isEx⟩ := air.there
  obtain ⟨_, u, hu, no⟩ := air.2.2.1.mem isOne
  cases hu.symm.trans at_
  exact no fs isEx
theorem Air.noLocals (air : Air X B a cls d h) (hf : X.env.frame = some X.env.locals) : a ≠ X.env.locals := by
  intro z
  refine air.noFrame ?_
  unfold frs
  rw [List.filterMap_cons, hf, z]
  exact List.mem_cons_self
theorem Air.type (air : Air X B a cls d h) : PySem.W.Looks (model X.prog X.w) h (typeOf (.ref a)) cls := by
  obtain ⟨ob, fs, at_, z, _⟩ := air.there
  intro A Q E s more q
  exact wpAny_typeOf_ref (more _ _ at_) (z.1.symm ▸ q)
/-- it is none of what stood at the entry, and nothing that is kept aside -/
theorem Fell.since (F : Fell X pins B a σ H sI s') (hs : X.stack = X.env :: X.outer) (hex : X.ex = []) (air : Air X B a cls d h) : X.s_0.heap.get? a = none := by
  refine Option.eq_none_iff_forall_ne_some.mpr fun o e => ?_
  obtain ⟨u, hu⟩ := F.was.base.there a o e (hex ▸ List.not_mem_nil)
  exact Option.some_ne_none u ((F.kept a u hu (hs ▸ air.noFrame)).symm.trans air.2.1)
theorem Fell.aside (F : Fell X pins B a σ H sI s') (air : Air X B a cls d h) : ∀ p ∈ X.pn ++ pins, p.1 ≠ a := by
  intro p hp z
  have P := F.was.pin p hp
  have b := F.kept p.1 p.2 P.1 fun isOne => (List.mem_cons.mp (F.was.stkSub p.1 isOne)).elim P.2.2.1 P.2.2.2.1
  exact Option.some_ne_none p.2 (b.symm.trans (z ▸ air.2.1))
/-- a class's name, read where the exception is looked at -/
theorem Fell.name (F : Fell X pins B a σ H sI s') (up : sI.heap.UpToSlots h) (air : Air X B a cls d h) {x : Str} {c : Value} {p : Pos} {Q : Value → Shared → Prop} {E : Value → Shared → Prop} (n : L2.Names X x c)
    (q : Q c { s' with heap := h }) : wpAny (model X.prog X.w) (X.A.mark (some (.ref a))) (eval (.Name x p) X.env) Q E { s' with heap := h } := by
  have I := Inv_suiteK (F.stands up air) a
  rcases n.2.2 with own | given
  · exact ld_glob (X := X.suite a (X.pn ++ pins)) I n.1 own q n.2.1
  · exact ld_blt (X := X.suite a (X.pn ++ pins)) I n.1 given.1 given.2.1 q given.2.2 n.2.1
/-- no clause is left: it flies on -/
theorem Fell.passes {D : Ends} {W : WX} (F : Fell X pins B a σ H sI s') (up : sI.heap.UpToSlots h) (air : Air X B a cls d h) (hs : X.stack = X.env :: X.outer) (hf : X.env.frame = some X.env.locals) (tk : L2.Takes X W) (w : W cls d σ H) :
    wpAny (model X.prog X.w) X.A (handleBy (.ref a) X.env []) (SP X pins D) X.xe { s' with heap := h } := by
  obtain ⟨_, _, _, ob, fs, T, _, _, at_, _, isEx, trace, _⟩ := id air
  have out : wpAny (model X.prog X.w) X.A (setFlight (.ref a) X.env.frame) (fun _ t => wpAny (model X.prog X.w) X.A (throw (.ref a) : Sem Flow) (SP X pins D) X.xe t) X.xe { s' with heap := h } :=
    hf.symm ▸ HandSPX.setFlight_upZ air fun h4 air4 up4 => wpAny_throw (tk _ _ ⟨a, B, sI, pins, σ, H, cls, d, rfl, F.was, F.kept, up.trans up4, .inr (.inr (hs.symm ▸ air4)), F.unseen, F.world, F.bare, w⟩)
  have some_ : ¬ ((Value.ref T == Value.none) = true) := by simp
  refine wpAny_handleBy_nil ?_
  unfold PySem.passOn
  refine wpAny_bind (wpAny_field at_ isEx trace ?_)
  rw [if_neg some_]
  first
    | exact wpAny_bind out
    | exact wpAny_bind (wpAny_pure (wpAny_bind out))
end
section
variable {X : Cx} {body : List Stmt} {hd : ExceptHandler} {pos : Pos} {tb : WX → TS} {W : Ends → WX}
/-- the rule: what the body lets fall is handled by the clause -/
theorem ps_try_by (hs : X.stack = X.env :: X.outer) (hf : X.env.frame = some X.env.locals)
    (hb : ∀ (V : WX) (pn : List (Addr × Obj)) (E : Value → Shared → Prop), L2.Takes (X.tr pn E) V → PassesOwn (model X.prog X.w) X.A X.env E → PSs (X.tr pn E) body (tb V))
    (hh : ∀ (pins : List (Addr × Obj)) (D : Ends) (B h : Heap) (a : Addr) (cls : Value) (d : Option Addr) (σ : L2.St) (H : Hp) (sI s' : Shared), X.Ok → Fell X pins B a σ H sI s' → sI.heap.UpToSlots h → Air X B a cls d h → W D cls d σ H →
      wpAny (model X.prog X.w) X.A (handleBy (.ref a) X.env [hd]) (SP X pins D) X.xe { s' with heap := h }) :
    PS X (.Try body [hd] [] [] pos) (fun D σ H => tb (W D) D σ H) := by
  refine ⟨fun pins s σ H D I h => wpAny_Try_except ?_⟩
  have looked : L2.Takes (X.tr (X.pn ++ pins) fun e t => wpAny (model X.prog X.w) X.A (noteFrame e X.env) (fun _ t => wpAny (model X.prog X.w) X.A (setFlight e none) (fun _ t => wpAny (model X.prog X.w) X.A (handleBy e X.env [hd]) (SP X pins D) X.xe t) X.xe t) X.xe t) (W D) := by
    rintro u s' ⟨a, B, sI, q, σ1, H1, cls, d, rfl, J, kept, up, sky, unseen, world, bare, w⟩
    refine Sky.land Zc.steady (I.ok.frames.trans (congrArg some hs)) hf (hs ▸ sky) fun h3 air up3 => ?_
    exact hh pins D B h3 a cls d σ1 H1 sI s' I.ok ⟨J.ofTry I.ok, kept, unseen, world, bare⟩ (up.trans up3) air w
  refine wpAny_mono ((hb (W D) (X.pn ++ pins) _ looked PassesOwn.looking).run [] s σ H D (I.toTry _) h) (fun f t x => ?_) (fun _ _ x => x)
  have x : SP X pins D f t := sp_map (fun J => J.ofTry I.ok) x
  cases f
  case next => exact wpAny_execs_nil x
  all_goals exact x
end
/-- what the clause wishes: the exception is followed -/
def wAsK (K : PySem.W.Frag) (c : Value) (i : Nat) (ts : TS) (Wout : WX) (D : Ends) : WX := fun cls d σ H =>
  ∃ b, PySem.W.exmOne K cls c = some b ∧ (b = true → ∀ a, H a = none → ts { nx := fun σ' H' => D.nx (σ'.set i none) H', rt := D.rt, bk := fun σ' H' => D.bk (σ'.set i none) H', ct := fun σ' H' => D.ct (σ'.set i none) H' } (σ.set i (some (.ref a))) (upd H a (exk a cls d))) ∧
    (b = false → Wout cls d σ H)
section
variable {X : Cx} {x n : Str} {c : Value} {i : Nat} {body suite : List Stmt} {b₀ : Stmt} {np pos pos' : Pos} {tb : WX → TS} {ts : TS} {Wout : WX}
theorem ps_try_asK (hs : X.stack = X.env :: X.outer) (hf : X.env.frame = some X.env.locals) (hex : X.ex = []) (hN : X.N.Nodup) (hi : X.N[i]? = some n) (hln : X.env.kindOf n = some .local) (hc : L2.Names X x c) (tk : L2.Takes X Wout)
    (hb : ∀ (W : WX) (pn : List (Addr × Obj)) (xe : Value → Shared → Prop), L2.Takes (X.tr pn xe) W → PassesOwn (model X.prog X.w) X.A X.env xe → PSs (X.tr pn xe) body (tb W))
    (hsu : ∀ (a : Addr) (pn : List (Addr × Obj)), PSs (X.suite a pn) (b₀ :: suite) ts) :
    PS X (.Try body [.ExceptHandler (some (.Name x np)) (some n) (b₀ :: suite) pos'] [] [] pos) (fun D σ H => tb (wAsK X.K c i ts Wout D) D σ H) := by
  refine ps_try_by (W := wAsK X.K c i ts Wout) hs hf hb ?_
  intro pins D B h a cls d σ H sI s' ok F up air ⟨b, asked, yes, no⟩
  refine wpAny_handleBy_cons (codeAny_handlers_test (F.name up air hc ?_)) nofun
  refine (PySem.W.exm_one (M := model X.prog X.w) (F.stands up air).kIn air.type asked).here ?_
  cases b
  · exact F.passes up air hs hf tk (no rfl)
  · refine codeAny_handlers_suite_as (HandSPX.lands_againZ air fun h4 air4 up4 => ?_)
    have air4 : Air X B a cls d h4 := air4
    obtain ⟨ob, fs, at_, z, isEx⟩ := air4.there
    have J := Inv_track (F.stands (up.trans up4) air4) at_ isEx F.unseen (F.since hs hex air4) (air4.noLocals hf) (F.aside air4) (exk_ok at_ z isEx)
    refine store_ok (X := X.suite a (X.pn ++ pins)) (v := .ref a) (Inv_suiteK J a) hN hi (.inl hln) rfl (fun t S => ?_) (.inr hln)
    refine wpAny_mono ((hsu a (X.pn ++ pins)).run [] t _ _ _ S (yes rfl a F.unseen)) (fun f t x => ?_) (fun _ _ no => no.elim)
    have gone : ∀ {σ5 : L2.St} {H5 : Hp} {Q : Shared → Prop}, Inv (X.suite a (X.pn ++ pins)) [] σ5 H5 t → (∀ t', Inv X pins (σ5.set i none) H5 t' → Q t') → wpAny (model X.prog X.w) X.A (do bindName X.env n .none; unbindBehindTheSuite X.env n pos') (fun _ t' => Q t') X.xe t :=
      fun S5 q => gone_ok (Inv_unsuiteK S5 ok) hN hi hln q
    cases f
    case ret => exact x.elim fun v x => x.elim fun σ5 x => x.elim fun H5 x => gone x.1 fun t' J5 => ⟨v, _, H5, J5, x.2⟩
    all_goals exact x.elim fun σ5 x => x.elim fun H5 x => gone x.1 fun t' J5 => ⟨_, H5, J5, x.2⟩
end
/-! ### isinstance, fields of a kept exception -/
/-- a class that answers isinstance rightly does so for its instances with fields as well -/
theorem exc_asked {K : PySem.W.Frag} {D x : Addr} {ox : Obj} {od : Option Obj} (C : ExcC K D) : PySem.W.KitX K (.ref x) (.ref D) (fun h => PySem.W.InstAt h x ox D od) :=
  PySem.W.kitx_exc ((PySem.W.any_some C.hd).elim fun _ r => by rw [r.1]; rfl) C.hg C.hk C.hs C.ha C.hn C.ht C.hm
/-- isinstance(e, c), e an exception that is kept; its fields stand at d -/
def rIsK (K : PySem.W.Frag) : List V → Hp → VK → Prop := fun xs H Q => ∃ (a D d : Addr) (fs : List (Str × V)) (c : V) (cv : Value) (b : Bool), xs = [.ref a, c] ∧ H a = some (exk a (.ref D) (some d)) ∧ H d = some (.xd fs) ∧ ExcC K D ∧ (∀ u, RelV c u → u = cv) ∧ PySem.W.kitOne K (.ref D) cv = some b ∧ Q (.bl b) H
theorem inst_of {X : Cx} {pins : List (Addr × Obj)} {σ : L2.St} {H : Hp} {s : Shared} {a D d : Addr} {fs : List (Str × V)} (I : Inv X pins σ H s) (ha : H a = some (exk a (.ref D) (some d))) (hd : H d = some (.xd fs)) :
    ∃ oe od mA, PySem.W.InstAt s.heap a oe D (some od) ∧ s.heap.Ns1 d mA ∧ (∀ f, RelO (fs.lookup f) (mA f)) ∧ ∀ n, PySem.W.lookIn n od = some (mA n) := by
  obtain ⟨mA, there, same⟩ := show ObjOk X.prog X.w H s.heap d (.xd fs) from I.hok d _ hd
  obtain ⟨od, atD, looks⟩ := lookIn_ns there
  obtain ⟨ob, vs, atA, z, isEx⟩ := exk_at I.hok ha
  have noClass : PySem.W.notCls ob = true := by
    unfold PySem.W.notCls
    rw [isEx]
  exact ⟨ob, od, mA, ⟨atA, z.1, noClass, z.2 ▸ atD⟩, there, same, looks⟩
theorem call_isK {X : Cx} : CallR X (.builtin "isinstance") (rIsK X.K) := by
  rintro pins s σ H _ us Q I r ⟨a, D, d, fs, c, cv, b, rfl, ha, hd, C, only, e, q⟩
  obtain ⟨ob, od, mA, J, _⟩ := inst_of I ha hd
  match us, r with
  | [_, t], .cons rfl (.cons rt .nil) =>
    cases only t rt
    exact PySem.W.kia_one (exc_asked C) I.kIn J e nofun fun _ => ⟨.bl b, H, I.kept fun _ _ z => z, rfl, q⟩
/-- e.f -/
def tXk (K : PySem.W.Frag) (f : Str) (te : TE) : TE := fun σ H Q => te σ H fun x H1 => ∃ (a C d : Addr) (fs : List (Str × V)) (v : V), x = .ref a ∧ H1 a = some (exk a (.ref C) (some d)) ∧ H1 d = some (.xd fs) ∧ XfC K C ∧ PySem.W.findIn K (.ref C) f = some none ∧ fs.lookup f = some v ∧ Q v H1
theorem pe_xk {X : Cx} {e : Expr} {te : TE} {pos : Pos} {n : Str} (he : PE X e te) (hb : attributeBase e n X.env (eval e X.env) = eval e X.env := by rfl) : PE X (.Attribute e n pos) (tXk X.K n te) := by
  constructor
  intro pins s σ H Q I h
  refine attr_of hb (thn (he.run pins s σ H _ I h) ?_)
  rintro u t ⟨_, H1, J, isRef, a, C, d, fs, v, rfl, ha, hd, T, own, at_, q⟩
  cases (show u = Value.ref a from isRef)
  obtain ⟨ob, od, mA, inst, _, same, looks⟩ := inst_of J ha hd
  obtain ⟨w, hw, rw_⟩ := RelO.some_of (v := v) (o := mA n) (at_ ▸ same n)
  have found : PySem.W.lookIn n od = some (some w) := (looks n).trans (congrArg some hw)
  exact HandSPX.exc_get J.kIn inst T.ga T.gg T.exC (PySem.W.findObj_own T.hdC own rfl found) (handed_of rw_) ⟨v, H1, J.tok _, rw_, q⟩
/-! ### Base.__init__(self, ..), Base an own class over ValueError without __init__ -/
section
variable {X : Cx} {e : Expr} {es : List Expr} {ta : TA} {p1 p2 pos : Pos}
theorem pe_binit {pl : Sem Bool} {B : Str} {CB : Addr} {mc : Value} (hg : Gl X B) (hm : X.mg B = some (.ref CB)) (hr : PySem.W.readsIn X.K CB mc = true) (ga : PySem.W.specialIn X.K (.ref CB) "__getattribute__" = some (some (.builtin "type.__getattribute__"))) (vV : PySem.W.findCls X.K (.ref CB) mc "__init__" = some (.val (.builtin "ValueError.__init__"))) (ha : PA X (e :: es) ta)
    (hdb : (B == ("__debug__" : Str)) = false := by decide)
    (hc : eval (.Call (.Attribute (.Name B p1) "__init__" p2) (e :: es) [] pos) X.env = (eval (.Name B p1) X.env >>= fun owner => standAt p2.atName >>= fun _ =>
      holding [owner] (getMethod owner "__init__" pl) >>= fun m => callWith pos m.1 m.2 (backTo pos (starEach (e :: es) X.env)) (backToKw pos (keywordEach [] X.env))) := by rfl)
    (hse : starEach (e :: es) X.env = (false, eval e X.env) :: starEach es X.env := by rfl) (hpl : (backTo pos (starEach es X.env)).any (·.1) = false := by rfl) :
    PE X (.Call (.Attribute (.Name B p1) "__init__" p2) (e :: es) [] pos) (tVeI X.K ta) := by
  constructor
  intro pins s σ H Q I h
  refine PySem.W.methodCall_KW (ld_glob I hg hm ?_ hdb) hc
  refine PySem.W.method_cls I.kIn ga (PySem.W.cls_value I.kIn hr vV (by decide +kernel) ?_)
  refine PyProof.Rows.callWith_method1 (thn (ha.run pos pins _ σ H _ (I.tok _) h) ?_) hse hpl
  rintro us t ⟨_, H1, J, r, a, C, ws, rfl, few, T, at_, q⟩
  match us, r with
  | _ :: ur, .cons rfl rs =>
    have fits : ur.length ≤ sizeLine := Nat.le_trans (Nat.le_of_eq (Paired.length rs).symm) (Nat.le_trans few (by rw [sizeLine_eq]; decide))
    exact oinit_ok T J at_ fits fun t' J' => ⟨.non, H1, J', rfl, q⟩
end
/-! ### a new exception of an own class, whose own __init__ is told -/
/-- the heap in which its __init__ begins -/
def exNew (h : Heap) (C : Addr) (us : List Value) : Heap := (h.push (PySem.W.kdv_tup us)).push (PySem.HandSPX.excO C h.objs.size)
theorem exNew_keeps {h : Heap} {C : Addr} {us : List Value} : ∀ b o, h.get? b = some o → (exNew h C us).get? b = some o := fun _ _ e => Heap.get?_push_of_some _ (Heap.get?_push_of_some _ e)
theorem exNew_at {h : Heap} {C : Addr} {us : List Value} : (exNew h C us).get? (h.objs.size + 1) = some (PySem.HandSPX.excO C h.objs.size) := by
  unfold exNew
  heap_get
theorem made_new {X : Cx} {CX : CXT} {C fI : Addr} {k : Nat} {fd : FuncData} {ps : List Str} {sp : Sp} {pins : List (Addr × Obj)} {σ : L2.St} {H : Hp} {s : Shared} {vs : List V} {us : List Value} {Q : VK} {R E : Value → Shared → Prop}
    (T : OexC X.K C) (iC : PySem.W.findIn X.K (.ref C) "__init__" = some (some (.ref fI))) (tI : PySem.W.typeIn X.K (.ref fI) = some (.type "function")) (F1 : FnOk X.prog X.w X.K X.mg X.base CX k fI fd ps sp) (room : Room (k + 1) X.A) (binds : Binds X.K fd ps [])
    (I : Inv X pins σ H s) (r : Vals vs us) (few : vs.length ≤ 1000) (q : sp (.ref (s.heap.objs.size + 1) :: vs) (upd H (s.heap.objs.size + 1) (exo (s.heap.objs.size + 1) C none)) Q (fun _ _ _ => False))
    (bad : ∀ er s', Inv X pins σ (upd H (s.heap.objs.size + 1) (exo (s.heap.objs.size + 1) C none)) { s with heap := exNew s.heap C us } →
      CX X.stack (upd H (s.heap.objs.size + 1) (exo (s.heap.objs.size + 1) C none)) { s with heap := exNew s.heap C us } (fun _ _ _ => False) er s' → E er s')
    (good : ∀ u s', Inv X pins σ (upd H (s.heap.objs.size + 1) (exo (s.heap.objs.size + 1) C none)) { s with heap := exNew s.heap C us } →
      CE X.stack X.prog X.w (upd H (s.heap.objs.size + 1) (exo (s.heap.objs.size + 1) C none)) { s with heap := exNew s.heap C us } Q u s' → u = .none ∧ R (.ref (s.heap.objs.size + 1)) s') :
    wpAny (model X.prog X.w) X.A (call (.ref C) us) R E s := by
  obtain ⟨nm, q0, N, bs, bm, sn, sub, ab, col, dd, k0, k1, k2, k3, k5, isCls, likes⟩ := T.cls
  obtain ⟨hp, gs, dr, tk, os⟩ := s
  have J : Inv X pins σ (upd H (hp.objs.size + 1) (exo (hp.objs.size + 1) C none)) ⟨exNew hp C us, gs, dr, tk, os⟩ := I.laid (t' := tk) exNew_keeps (Nat.le_succ _) (exo_ok exNew_at)
  have all : Vals (V.ref (hp.objs.size + 1) :: vs) (Value.ref (hp.objs.size + 1) :: us) := .cons rfl r
  have many : (Value.ref (hp.objs.size + 1) :: us ++ []).length = ps.length := (congrArg List.length (List.append_nil _)).trans (all.length.symm.trans (F1.len _ _ _ _ q))
  have fits : us.length ≤ sizeLine := Nat.le_trans (Nat.le_of_eq (Paired.length r).symm) (Nat.le_trans few (by rw [sizeLine_eq]; decide))
  have told := binds ⟨exNew hp C us, gs, dr, tk, os⟩ (Value.ref (hp.objs.size + 1) :: us) J.kIn many
  rw [List.append_nil] at told
  have runs := F1.run _ X.stack _ _ ⟨Value.ref (hp.objs.size + 1) :: us, []⟩ _ _ Q (fun _ _ _ => False) (room.make C us []) (J.env0.make C us []) told all q
  refine wpAny_call (PySem.HandSPX.call_own F.excBase_ValueError (fun Y => PySem.HandSPX.refsVE_contains Y bm likes) (I.kIn _ _ isCls) (PySem.W.looks_findIn I.kIn iC) (fun self => PySem.W.bind_fn I.kIn self tI) fits (codeAny_mono runs ?_))
  rintro (er | fl) s' after
  · exact bad er s' J after
  · cases fl
    case ret u => exact good u s' J after
    all_goals exact after.elim
/-! ### NoOffer -/
def clsBody (s : Stmt) : List Stmt := match s with
  | .ClassDef _ _ _ b _ _ _ _ _ _ _ => b
  | _ => []
abbrev s_ninit : Stmt := (clsBody (topS 2)).getD 0 (.Pass ⟨0, 0, 0, 0⟩)
theorem sc_ninit : FnScope ["self", "place"] ["self", "place"] (defScope s_ninit) := ⟨rfl, rfl, rfl, by decide +kernel, rfl, by decide +kernel, by decide +kernel⟩
/-- what the written part says of the refusal's class, at C, of its base, at CP, and of its __init__, at fI -/
structure Exs (K : PySem.W.Frag) (mg : Str → Option Value) (C CP fI : Addr) (fdI : FuncData) : Prop where
  gN : mg "NoOffer" = some (.ref C)
  gP : mg "PackError" = some (.ref CP)
  oex : OexC K C
  rP : PySem.W.readsIn K CP (.type "type") = true
  gaP : PySem.W.specialIn K (.ref CP) "__getattribute__" = some (some (.builtin "type.__getattribute__"))
  vP : PySem.W.findCls K (.ref CP) (.type "type") "__init__" = some (.val (.builtin "ValueError.__init__"))
  np : PySem.W.findIn K (.ref C) "place" = some none
  iC : PySem.W.findIn K (.ref C) "__init__" = some (some (.ref fI))
  tI : PySem.W.typeIn K (.ref fI) = some (.type "function")
  F : Fun K "__init__" "NoOffer.__init__" s_ninit fI fdI
  b : Binds K fdI ["self", "place"] []
  exc : ExcC K C
  xf : XfC K C
theorem lt100_log {n : Nat} (h : n < 100) : ((n : Nat) : Int).natAbs.log2 < 1920 := by
  have h1 : n < 2 ^ 7 := Nat.lt_trans h (by decide)
  rw [Int.natAbs_natCast]
  by_cases z : n = 0
  · rw [z]
    decide
  · have := (Nat.log2_lt z).mpr h1
    omega
theorem lt100_len {n : Nat} (h : n < 100) : (Str.ofString (toString ((n : Nat) : Int))).length ≤ 2 := by
  have : ∀ n, n < 100 → (Str.ofString (toString ((n : Nat) : Int))).length ≤ 2 := by decide +kernel
  exact this n h
theorem strE_len (x y : Str) : (x ++ y).length = x.length + y.length := by
  show (x ++ y).cps.size = x.cps.size + y.cps.size
  rw [Str.cps_append, Array.size_append]
def tJoinedE (ts : List TE) : TE := fun σ H Q => tJs ts Str.empty σ H fun out H1 => Q (.str out) H1
theorem pe_joinedE {X : Cx} {v1 v2 : Expr} {rest : List Expr} {ts : List TE} {pos : Pos} (h : PJ X (v1 :: v2 :: rest) ts) : PE X (.JoinedStr (v1 :: v2 :: rest) pos) (tJoinedE ts) := pe_joined h
def sp_ninit (C : Addr) : Sp := fun vs H Q _ => ∃ (a : Addr) (n : Nat), vs = [.ref a, .int n] ∧ n < 100 ∧ H a = some (exo a C none) ∧ ∀ dx, H dx = none → dx ≠ a → Q .non (upd (upd H dx (exd dx [("place", .int n)])) a (exo a C (some dx)))
/-- a made refusal's heap -/
theorem made_heap {H : Hp} {a dx : Addr} {fs : List (Str × V)} {C : Addr} (ha : H a = none) (hd : H dx = none) (ne : dx ≠ a) : upd (del (upd (upd (upd H a (exo a C none)) dx (exd dx fs)) a (exo a C (some dx))) a) dx (.xd fs) = upd H dx (.xd fs) := by
  funext b
  by_cases h1 : b = dx
  · rw [h1, upd_same, upd_same]
  · rw [upd_ne h1, upd_ne h1]
    by_cases h2 : b = a
    · rw [h2, del_same, ha]
    · rw [del_ne h2, upd_ne h2, upd_ne h1, upd_ne h2]
section
variable {P : Program} {w : World} {K : PySem.W.Frag} {mg : Str → Option Value} {base : Heap} {T : List Addr} {C CP fI : Addr} {fdI : FuncData}
theorem ok_ninit {k : Nat} (X : Exs K mg C CP fI fdI) : FnOk P w K mg base CX0 (k + 1) fI fdI ["self", "place"] (sp_ninit C) := by
  refine X.F.ok sc_ninit (fun vs H Q E h => ?_) (fun cdv A outer s H vs Q E hr h => ?_)
  · obtain ⟨a, n, rfl, _⟩ := h
    rfl
  · obtain ⟨a, n, rfl, hn, ha, q⟩ := h
    refine ⟨_, pss_cons (ps_expr (pe_binit (by rfl) X.gP X.rP X.gaP X.vP (pa_cons (pv 0) (pa_cons (pe_joinedE (.cons pe_str (.cons (pe_fmt (pv 1)) (.cons pe_str .nil)))) pa_nil)))) (pss_one (ps_ost (pv 0) (pv 1))), ?_⟩
    have ln := lt100_len hn
    refine ⟨_, rfl, _, rfl, by decide +kernel, _, rfl, .inr ⟨_, rfl, lt100_log hn, _, rfl, ?_, _, rfl, ?_, ?_⟩⟩
    · rw [strE_len, strE_len]
      exact Nat.le_trans (Nat.add_le_add_left ln _) (by decide +kernel)
    · rw [strE_len, strE_len, strE_len]
      exact Nat.le_trans (Nat.add_le_add_right (Nat.add_le_add_left ln _) _) (by decide +kernel)
    · refine ⟨a, C, _, rfl, by show 1 ≤ 1000; decide, X.oex, ha, ?_⟩
      exact ⟨_, rfl, _, rfl, a, C, rfl, X.oex, X.np, .inl ⟨ha, fun dx nd ne => q dx nd ne⟩⟩
end
/-! ### exceptions raised where none is handled: own classes; and what a def lets out, said more weakly -/
theorem FnOk.weakN {P : Program} {w : World} {K : PySem.W.Frag} {mg : Str → Option Value} {base : Heap} {k : Nat} {f : Addr} {fd : FuncData} {ps : List Str} {sp : Sp} (F : FnOk P w K mg base (L2N.CX P w) k f fd ps sp) : FnOk P w K mg base (L2.CX P w) k f fd ps sp :=
  ⟨F.len, fun A outer s H args us vs Q E hr he hb hv hs => codeAny_mono (F.run A outer s H args us vs Q E hr he hb hv hs) fun r s' h => by
    cases r with
    | error e =>
      obtain ⟨a, B, H', cls, d, e1, fl, r⟩ := h
      exact ⟨a, B, H', cls, d, e1, L2H.flyingZ_imp (fun _ z => z.zc) fl, r⟩
    | ok fl => cases fl <;> exact h⟩
/-- where it may raise nothing, it raises nothing -/
theorem FnOk.unlift {P : Program} {w : World} {K : PySem.W.Frag} {mg : Str → Option Value} {base : Heap} {k : Nat} {f : Addr} {fd : FuncData} {ps : List Str} {sp : Sp} (F : FnOk P w K mg base (L2.CX P w) k f fd ps sp) : FnOk P w K mg base CX0 k f fd ps (fun vs H Q _ => sp vs H Q E0) :=
  ⟨fun vs H Q E h => F.len vs H Q E0 h, fun A outer s H args us vs Q E hr he hb hv hs => codeAny_mono (F.run A outer s H args us vs Q E0 hr he hb hv hs) fun r s' h => by
    cases r with
    | error e =>
      obtain ⟨a, B, H', cls, d, e1, fl, _, _, _, _, _, z⟩ := h
      exact z
    | ok fl => cases fl <;> exact h⟩
/-- a def that raises only where nothing is handled; its own code object is told to its body -/
theorem okcN {P : Program} {w : World} {K : PySem.W.Frag} {mg : Str → Option Value} {base : Heap} {x qual : Str} {st : Stmt} {f c : Addr} {fd : FuncData} {N ps : List Str} {k : Nat} {sp : Sp} (F : Fun K x qual st f fd) (own : fd.code = .ref c) (S : FnScope N ps (defScope st)) (len : ∀ vs H Q E, sp vs H Q E → vs.length = ps.length)
    (body : ∀ (cv : Value) (A : Around) (outer : List Env) (s : Shared) (H : Hp) (vs : List V) (Q : VK) (E : XK), cv = .ref c → Room k (A.deeper (envOfC qual (defScope st) s.heap.objs.size f cv)) → sp vs H Q E →
      ∃ t, PSs (cxOf (L2N.CX P w) P w K mg base N qual (defScope st) f cv A outer s H E) (defBody st) t ∧ t { nx := fun _ H' => Q .non H', rt := Q } (start N vs) H) : FnOk P w K mg base (L2N.CX P w) (k + 1) f fd ps sp := by
  have E := F.ex
  obtain ⟨_, _, _, _, _, _, cv, _, _, rfl, found, isCode⟩ := E
  exact fn_of found isCode S len fun A outer s H vs Q E room q => body cv A outer s H vs Q E own room q
theorem _root_.L2.Fun.okN {P : Program} {w : World} {K : PySem.W.Frag} {mg : Str → Option Value} {base : Heap} {x qual : Str} {st : Stmt} {f : Addr} {fd : FuncData} {N ps : List Str} {k : Nat} {sp : Sp} (F : Fun K x qual st f fd) (S : FnScope N ps (defScope st)) (len : ∀ vs H Q E, sp vs H Q E → vs.length = ps.length)
    (body : ∀ (cv : Value) (A : Around) (outer : List Env) (s : Shared) (H : Hp) (vs : List V) (Q : VK) (E : XK), Room k (A.deeper (envOfC qual (defScope st) s.heap.objs.size f cv)) → sp vs H Q E →
      ∃ t, PSs (cxOf (L2N.CX P w) P w K mg base N qual (defScope st) f cv A outer s H E) (defBody st) t ∧ t { nx := fun _ H' => Q .non H', rt := Q } (start N vs) H) : FnOk P w K mg base (L2N.CX P w) (k + 1) f fd ps sp := by
  have E := F.ex
  obtain ⟨_, _, _, _, _, _, cv, _, _, rfl, found, isCode⟩ := E
  exact fn_of found isCode S len (body cv)
section
variable {X : Cx} {e : Expr} {es : List Expr} {p pos : Pos}
/-- C(e, ..), C an own class with an own __init__ -/
theorem pmk_oexN {CX : CXT} {x : Str} {ta : TA} {C fI : Addr} {k : Nat} {fd : FuncData} {ps : List Str} {sp : Sp} (T : OexC X.K C) (iC : PySem.W.findIn X.K (.ref C) "__init__" = some (some (.ref fI))) (tI : PySem.W.typeIn X.K (.ref fI) = some (.type "function"))
    (F1 : FnOk X.prog X.w X.K X.mg X.base CX k fI fd ps sp) (hr : Room (k + 1) X.A) (hb : Binds X.K fd ps []) (hx : Passes CX X (fun _ _ _ => False)) (hg : Gl X x) (hm : X.mg x = some (.ref C)) (ha : PA X (e :: es) ta)
    (hdb : (x == ("__debug__" : Str)) = false := by decide) (he : starEach (e :: es) X.env = (false, eval e X.env) :: starEach es X.env := by rfl) (hpl : (backTo pos (starEach es X.env)).any (·.1) = false := by rfl) :
    L2N.PMk X (.Call (.Name x p) (e :: es) [] pos) (tMkO C sp [] ta) := by
  intro pins s σ H Q I h
  refine wpAny_Call_Name_kw (ld_glob I hg hm ?_ hdb)
  refine PySem.W.callWith_K (h₀ := X.base) I.ok.mod.kin T.kC (thn (ha.run pos pins s σ H _ I h) ?_) he hpl
  rintro us t ⟨vs, H1, J, r, few, q⟩
  have new := q _ (J.hok.fresh (Nat.le_succ _))
  rw [List.append_nil] at new
  refine ⟨J.kIn, made_new T iC tI F1 hr hb J r few new (fun er t' J' x => hx pins σ _ _ er t' J' x) fun u t' _ x => ?_⟩
  obtain ⟨v, H2, sameOs, bare, un, hok, rv, rfl, d, fs, ea, ed, free, q2⟩ := x
  obtain ⟨t0, G, J2, less, gone, there, na⟩ := mk_end0 (d2 := t'.drawn) (t2 := t'.toks) J (Nat.le_succ _) exNew_keeps un hok sameOs bare ea ed free
  exact ⟨rv, t.heap.objs.size + 1, _, _, _, _, .ref C, some d, rfl, J2, less, gone, there, ⟨rfl, rfl, fun fs isEx => by cases isEx; rfl⟩, rfl, rfl, na, rfl, bare, raises_own T.exC T.tyC, q2⟩
/-- C(e, ..), C an own class without an __init__ -/
theorem pmk5_own {C : Addr} {made : List Value} {B newId initId : String} {x : Str} {t : TA} (F : ExcBaseFacts B newId initId made) (isEx : PySem.W.excIn X.K C made newId = true) (gC : X.mg x = some (.ref C))
    (kept : PySem.W.keepIn X.K (.ref C) = true) (r : Raises X (.ref C)) (hg : Gl X x) (args : PA X (e :: es) t) (hdb : (x == ("__debug__" : Str)) = false := by decide)
    (hse : starEach (e :: es) X.env = (false, eval e X.env) :: starEach es X.env := by rfl) (plain : (backTo pos (starEach es X.env)).any (·.1) = false := by rfl) :
    L2H.PMk5 X (.Call (.Name x p) (e :: es) [] pos) (fun σ H Q => t σ H fun vs H1 => vs.length ≤ sizeLine ∧ Q (.ref C) none H1) := by
  intro pins s σ H Q I h
  refine wpAny_Call_Name_kw (ld_glob I hg gC (PySem.W.callWith_K (h₀ := X.base) I.ok.mod.kin kept (thn (args.run pos pins s σ H _ I h) ?_) hse plain) hdb)
  rintro us s1 ⟨vs, H1, J, same, few, q⟩
  obtain ⟨_, _, _, _, _, _, _, _, _, _, _, _, _, _, _, _, order, isCls, isNew, noInit, calls⟩ := exc_obj J.kIn isEx
  exact ⟨J.kIn, wpAny_call_exc_subT F calls isCls isNew noInit (fun h' a new => L2H.mk_of5 J new r q (J.hok.gone new.new)) (same.length ▸ few)⟩
end
/-! ### texts of any kind: where they are cut, and which of them are a number's -/
theorem text_at {x y : Str} {i : Nat} (hy : TL.tl y ≠ []) (h : StrLaws.At x y x.length i) : Builtin.Str.strSub x 0 i ++ y ++ Builtin.Str.strSub x (i + y.length) x.length = x := TL.ext_tl (by
  have hp := (TL.at_iff hy i).mp h
  have ey : ((TL.tl x).drop i).take (TL.tl y).length = TL.tl y := eq_of_beq hp
  rw [TL.tl_append, TL.tl_append, TL.tl_strSub, TL.tl_strSub_end, List.drop_zero, Nat.sub_zero, TL.len_tl y, ← List.drop_drop, List.append_assoc]
  generalize TL.tl x = l at ey ⊢
  have e2 : TL.tl y ++ (l.drop i).drop (TL.tl y).length = l.drop i := by
    have := List.take_append_drop (TL.tl y).length (l.drop i)
    rw [ey] at this
    exact this
  rw [e2]
  exact List.take_append_drop i l)
theorem part_ways {a y : Str} (hy : TL.tl y ≠ []) : (∃ b t, Txt.partition a y = (b, y, t) ∧ a = b ++ y ++ t) ∨ (Txt.partition a y = (a, Str.empty, Str.empty) ∧ ∀ i, ¬ StrLaws.At a y a.length i) := by
  rcases PyProof.Rows.partition_whole a y with ⟨h, n⟩ | ⟨i, h, hi, _⟩
  · exact .inr ⟨h, n⟩
  · exact .inl ⟨_, _, h, (text_at hy hi).symm⟩
theorem rpart_ways {a y : Str} (hy : TL.tl y ≠ []) : (∃ b t, Txt.rpartition a y = (b, y, t) ∧ a = b ++ y ++ t) ∨ Txt.rpartition a y = (Str.empty, Str.empty, a) := by
  unfold Txt.rpartition
  rcases StrLaws.last_spec a y with ⟨h0, _⟩ | ⟨i, h0, hi, _⟩
  · rw [h0]
    exact .inr rfl
  · rw [h0]
    exact .inl ⟨_, _, rfl, (text_at hy hi).symm⟩
theorem numL_made : ∀ (n : Nat) (l : List Nat), l.length = n → l ≠ [] → (∀ c ∈ l, 48 ≤ c ∧ c ≤ 57) → l.head? ≠ some 48 → ∃ m, 0 < m ∧ TL.numL m = l ∧ m < 10 ^ l.length := by
  intro n
  induction n with
  | zero =>
    intro l hl ne _ _
    exact absurd (List.length_eq_zero_iff.mp hl) ne
  | succ n ih =>
    intro l hl ne dg hd
    obtain ⟨r, d, rfl⟩ : ∃ r d, l = r ++ [d] := ⟨l.dropLast, l.getLast ne, (List.dropLast_concat_getLast ne).symm⟩
    have hdg := dg d (List.mem_append.mpr (.inr List.mem_cons_self))
    by_cases z : r = []
    · subst z
      refine ⟨d - 48, ?_, ?_, ?_⟩
      · have : d ≠ 48 := fun e => hd (by rw [e]; rfl)
        omega
      · rw [TL.numL_lt (by omega), show 48 + (d - 48) = d by omega]
        rfl
      · show d - 48 < 10 ^ 1
        omega
    · have lr : r.length = n := by
        rw [List.length_append] at hl
        have : r.length + 1 = n + 1 := hl
        omega
      obtain ⟨m, m0, e, lt⟩ := ih r lr z (fun c hc => dg c (List.mem_append.mpr (.inl hc))) (by
        cases r with
        | nil => exact absurd rfl z
        | cons c r => exact hd)
      refine ⟨m * 10 + (d - 48), by omega, ?_, ?_⟩
      · rw [TL.numL_step (by omega), show (m * 10 + (d - 48)) / 10 = m by omega, show 48 + (m * 10 + (d - 48)) % 10 = d by omega, e]
      · rw [List.length_append]
        show m * 10 + (d - 48) < 10 ^ (r.length + 1)
        rw [Nat.pow_succ]
        omega
/-- a text of figures that begins with no nought, but for 0 itself -/
theorem num_made {a : Str} {k : Nat} (h : madeM ("0123456789" : Str) a k = true) (hz : (TL.tl a).head? = some 48 → a = ("0" : Str)) : ∃ n, a = numS n ∧ n < 10 ^ k ∧ (TL.tl a) ≠ [] := by
  unfold madeM at h
  split at h
  · rename_i hl
    have ne : TL.tl a ≠ [] := fun z => by
      have := TL.len_tl a
      rw [z] at this
      have h1 := hl.1
      rw [this] at h1
      exact absurd h1 (by decide)
    have la := TL.len_tl a
    have hk : 0 < k := by omega
    have p1 : 0 < 10 ^ k := Nat.pow_pos (by decide)
    by_cases z : (TL.tl a).head? = some 48
    · refine ⟨0, ?_, p1, ne⟩
      rw [hz z]
      decide +kernel
    · have dg : ∀ c ∈ TL.tl a, 48 ≤ c ∧ c ≤ 57 := fun c hc => by
        have := List.all_eq_true.mp h c hc
        have m := of_decide_eq_true this
        have all : ∀ c ∈ TL.tl ("0123456789" : Str), 48 ≤ c ∧ c ≤ 57 := by decide +kernel
        exact all c m
      obtain ⟨m, _, e, lt⟩ := numL_made _ (TL.tl a) rfl ne dg z
      refine ⟨m, TL.ext_tl (by rw [tl_numS, e]), ?_, ne⟩
      have le : (TL.tl a).length ≤ k := by omega
      exact Nat.lt_of_lt_of_le lt (Nat.pow_le_pow_right (by decide) le)
  · cases h
/-- every piece of a cut text is no longer than the text, and so many are they at most -/
theorem join_parts_len (y : Str) : ∀ ps : List Str, (∀ p ∈ ps, p.length ≤ (Str.join y ps).length) ∧ (y.length ≠ 0 → ps.length ≤ (Str.join y ps).length + 1)
  | [] => ⟨fun p h => by (cases h), fun _ => Nat.zero_le _⟩
  | [p] => ⟨fun q h => by
      rw [List.mem_singleton.mp h]
      exact Nat.le_refl _, fun _ => by show 1 ≤ _; omega⟩
  | p :: q :: r => by
    obtain ⟨h1, h2⟩ := join_parts_len y (q :: r)
    have e : (Str.join y (p :: q :: r)).length = p.length + y.length + (Str.join y (q :: r)).length := by
      show (p ++ y ++ Str.join y (q :: r)).length = _
      rw [str_len_app, str_len_app]
    refine ⟨fun z hz => ?_, fun ny => ?_⟩
    · rcases List.mem_cons.mp hz with rfl | hz
      · omega
      · have := h1 z hz
        omega
    · have := h2 ny
      show (q :: r).length + 1 ≤ _
      omega
theorem split_len {a y p : Str} (h : p ∈ Txt.split a y) : p.length ≤ a.length := by
  have := (join_parts_len y (Txt.split a y)).1 p h
  rw [StrLaws.join_split] at this
  exact this
theorem split_many {a y : Str} (hy : y.length ≠ 0) : (Txt.split a y).length ≤ a.length + 1 := by
  have := (join_parts_len y (Txt.split a y)).2 hy
  rw [StrLaws.join_split] at this
  exact this
/-! ### NoText, raised -/
abbrev s_xinit : Stmt := (clsBody (topS 3)).getD 0 (.Pass ⟨0, 0, 0, 0⟩)
theorem sc_xinit : FnScope ["self", "row"] ["self", "row"] (defScope s_xinit) := ⟨rfl, rfl, rfl, by decide +kernel, rfl, by decide +kernel, by decide +kernel⟩
/-- what the written part says of NoText, at C, and of its __init__, at fI -/
structure ExText (K : PySem.W.Frag) (mg : Str → Option Value) (C fI : Addr) (fdI : FuncData) : Prop where
  gT : mg "NoText" = some (.ref C)
  oex : OexC K C
  nr : PySem.W.findIn K (.ref C) "row" = some none
  iC : PySem.W.findIn K (.ref C) "__init__" = some (some (.ref fI))
  tI : PySem.W.typeIn K (.ref fI) = some (.type "function")
  F : Fun K "__init__" "NoText.__init__" s_xinit fI fdI
  b : Binds K fdI ["self", "row"] []
  xf : XfC K C
def sp_xinit (C : Addr) : Sp := fun vs H Q _ => ∃ (a : Addr) (n : Nat), vs = [.ref a, .int n] ∧ n < 100 ∧ H a = some (exo a C none) ∧ ∀ dx, H dx = none → dx ≠ a → Q .non (upd (upd H dx (exd dx [("row", .int n)])) a (exo a C (some dx)))
/-- where NoText of row n may be raised -/
def RowE (T : List Addr) (CT : Addr) (n : Nat) (H : Hp) (E : XK) : Prop := ∀ H' e, Ext T H H' → H e = none → H' e = some (.xd [("row", .int (n : Nat))]) → E (.ref CT) (some e) H'
theorem RowE.ext {T : List Addr} {CT : Addr} {n : Nat} {H H1 : Hp} {E : XK} (e : Ext T H H1) (h : RowE T CT n H E) : RowE T CT n H1 E := fun H' x e' nx hx => h H' x (e.trans e') (e.free x nx) hx
theorem RowE.imp {T : List Addr} {CT : Addr} {n : Nat} {H : Hp} {E E' : XK} (f : ∀ H' x, Ext T H H' → E (.ref CT) (some x) H' → E' (.ref CT) (some x) H') (h : RowE T CT n H E) : RowE T CT n H E' := fun H' x e' nx hx => f H' x e' (h H' x e' nx hx)
theorem text_out {T : List Addr} {CT : Addr} {n : Nat} {H : Hp} {E : XK} (hn : n < 100) (hT : Tb T H) (R : RowE T CT n H E) : ∀ a, H a = none → sp_xinit CT (.ref a :: ([.int (n : Nat)] ++ [])) (upd H a (exo a CT none)) (fun v H2 => v = .non ∧ ∃ (d : Addr) (fs : List (Str × V)), H2 a = some (exo a CT (some d)) ∧ H2 d = some (exd d fs) ∧ H d = none ∧ E (.ref CT) (some d) (upd (del H2 a) d (.xd fs))) (fun _ _ _ => False) := fun a na => by
  refine ⟨a, n, rfl, hn, upd_same, fun dx nd ne => ⟨rfl, dx, [("row", .int (n : Nat))], upd_same, ?_, ?_, ?_⟩⟩
  · rw [upd_ne ne, upd_same]
  · rw [upd_ne ne] at nd
    exact nd
  · rw [upd_ne ne] at nd
    rw [made_heap na nd ne]
    exact R _ dx ((Ext.refl hT).new nd) nd upd_same
section
variable {P : Program} {w : World} {K : PySem.W.Frag} {mg : Str → Option Value} {base : Heap} {C CP fI : Addr} {fdI : FuncData} {CT fT : Addr} {fdT : FuncData}
theorem ok_xinit {k : Nat} (X : Exs K mg C CP fI fdI) (Z : ExText K mg CT fT fdT) : FnOk P w K mg base CX0 (k + 1) fT fdT ["self", "row"] (sp_xinit CT) := by
  refine Z.F.ok sc_xinit (fun vs H Q E h => ?_) (fun cdv A outer s H vs Q E hr h => ?_)
  · obtain ⟨a, n, rfl, _⟩ := h
    rfl
  · obtain ⟨a, n, rfl, hn, ha, q⟩ := h
    refine ⟨_, pss_cons (ps_expr (pe_binit (by rfl) X.gP X.rP X.gaP X.vP (pa_cons (pv 0) (pa_cons (pe_joinedE (.cons pe_str (.cons (pe_fmt (pv 1)) (.cons pe_str .nil)))) pa_nil)))) (pss_one (ps_ost (pv 0) (pv 1))), ?_⟩
    have ln := lt100_len hn
    refine ⟨_, rfl, _, rfl, by decide +kernel, _, rfl, .inr ⟨_, rfl, lt100_log hn, _, rfl, ?_, _, rfl, ?_, ?_⟩⟩
    · rw [strE_len, strE_len]
      exact Nat.le_trans (Nat.add_le_add_left ln _) (by decide +kernel)
    · rw [strE_len, strE_len, strE_len]
      exact Nat.le_trans (Nat.add_le_add_right (Nat.add_le_add_left ln _) _) (by decide +kernel)
    · refine ⟨a, CT, _, rfl, by show 1 ≤ 1000; decide, Z.oex, ha, ?_⟩
      exact ⟨_, rfl, _, rfl, a, CT, rfl, Z.oex, Z.nr, .inl ⟨ha, fun dx nd ne => q dx nd ne⟩⟩
end
/-! ### read_number of any text: the number whose text it is, or NoText -/
def spa_read_number (T : List Addr) (CT : Addr) : Sp := fun vs H Q E => ∃ (a : Str) (k : Nat), vs = [.str a, .int k] ∧ a.length ≤ 90000 ∧ 0 < k ∧ k ≤ 12 ∧ Tb T H ∧ (∀ n : Nat, a = numS n → n < 10 ^ k → ∀ H', Ext T H H' → Q (.int (n : Int)) H') ∧ RowE T CT 0 H E
section
variable {P : Program} {w : World} {K : PySem.W.Frag} {mg : Str → Option Value} {base : Heap} {T : List Addr} {C CP fI : Addr} {fdI : FuncData} {CT fT : Addr} {fdT : FuncData}
theorem oka_read_number {f f1 c t : Addr} {fd fd1 : FuncData} {k : Nat} (M : Names mg) (X : Exs K mg C CP fI fdI) (Z : ExText K mg CT fT fdT) (D : Def K mg "read_number" s_read_number ["text", "figures"] f fd) (D_made_of : Def K mg "made_of" s_made_of ["signs", "text", "most"] f1 fd1) (hc : fd1.code = .ref c) (TB : GxR.TabB base mg c t) (ht : t ∈ T) : FnOk P w K mg base (L2N.CX P w) (k + 3) f fd ["text", "figures"] (spa_read_number T CT) := by
  have G_made_of : FnOk P w K mg base CX0 (k + 2) f1 fd1 ["signs", "text", "most"] (sp_made_of T) := ok_made_of M D_made_of hc TB ht
  have GT : FnOk P w K mg base CX0 (k + 1) fT fdT ["self", "row"] (sp_xinit CT) := ok_xinit X Z
  obtain ⟨tF, m_FIGURES⟩ := M.c_FIGURES
  refine D.F.okN sc_read_number (fun vs H Q E h => ?_) (fun cdv A outer s H vs Q E hr h => ?_)
  · obtain ⟨a, k, rfl, _⟩ := h
    rfl
  · obtain ⟨a, k, rfl, al, hk, hk2, hT, q, R⟩ := h
    refine ⟨_, (pss_cons (ps_if (PW.pt (pw_or (pt_not (pt_val (pe_call G_made_of hr (by rfl) D_made_of.g D_made_of.F.kp D_made_of.b .nil pass0 (pa_cons (pe_glob (v := .str "0123456789") (by rfl) m_FIGURES ⟨_, rfl⟩) (pa_cons (pv 0) (pa_cons (pv 1) pa_nil)))))) (pw_or1 (PW.pt (pw_and (pt_cmpR op_eq (pe_ix ix_str (pv 0) pe_int (fun _ _ => rfl)) pe_str (nomark _)) (pw_and1 (pt_cmpR op_ne (pv 0) pe_str (nomark _))))))))
   (pss_one (L2N.ps_raise rfl (L2N.takes_of rfl rfl rfl rfl) (pmk_oexN Z.oex Z.iC Z.tI GT hr Z.b pass0 (by rfl) Z.gT (pa_cons pe_int pa_nil))))
   pss_nil)
  (pss_one (ps_ret (pe_callTy call_int_str (by rfl) M.int (by decide +kernel) (pa_cons (pv 0) pa_nil))))), ?_⟩
    refine ⟨_, rfl, _, rfl, _, _, _, rfl, szL (by omega), hT, fun H1 e1 => ?_⟩
    have out := text_out (n := 0) (by decide) e1.t1 (R.ext e1)
    cases hm : madeM ("0123456789" : Str) a (k : Int) with
    | false => exact ⟨false, rfl, by show 1 ≤ 1000; decide, out⟩
    | true =>
      have last : ∀ n : Nat, a = numS n → n < 10 ^ k → ∃ a' m, [V.str a] = [.str a'] ∧ PySem.intText? a' = some m ∧ a'.length ≤ 640 ∧ Q (.int m) H1 := fun n e lt => by
        have l2 := TL.numL_len hk lt
        have ln := numS_len n
        subst e
        exact ⟨_, _, rfl, TL.int_num (by omega), by omega, q n rfl lt H1 e1⟩
      have ne : TL.tl a ≠ [] := fun z => by
        unfold madeM at hm
        have := TL.len_tl a
        rw [z] at this
        rw [if_neg (fun w => by have h1 := w.1; rw [this] at h1; exact absurd h1 (by decide))] at hm
        cases hm
      obtain ⟨c0, r, e0⟩ : ∃ c0 r, TL.tl a = c0 :: r := by
        cases e : TL.tl a with
        | nil => exact absurd e ne
        | cons c r => exact ⟨c, r, rfl⟩
      by_cases z : c0 = 48
      · refine ⟨true, rfl, _, rfl, _, _, c0, rfl, rfl, szL (by omega), by rw [show a.cps.toList = c0 :: r from e0]; exact atI_nat (j := 0) rfl, rfl, true, by rw [z]; decide +kernel, _, rfl, rfl, ?_⟩
        by_cases z0 : a = ("0" : Str)
        · refine ⟨false, by rw [z0]; decide +kernel, _, rfl, ?_⟩
          exact last 0 (by rw [z0]; decide +kernel) (Nat.pow_pos (by decide))
        · refine ⟨true, ?_, by show 1 ≤ 1000; decide, out⟩
          show V.bl (!decide (V.str a = V.str ("0" : Str))) = V.bl true
          rw [decide_eq_false (fun y => z0 (V.str.inj y))]
          rfl
      · refine ⟨true, rfl, _, rfl, _, _, c0, rfl, rfl, szL (by omega), by rw [show a.cps.toList = c0 :: r from e0]; exact atI_nat (j := 0) rfl, rfl, false, ?_, _, rfl, ?_⟩
        · refine congrArg V.bl (decide_eq_false fun z2 => z ?_)
          have z3 := V.str.inj z2
          have z4 : TL.tl (⟨#[c0]⟩ : Str) = TL.tl ("0" : Str) := congrArg TL.tl z3
          rw [show TL.tl ("0" : Str) = [48] by decide +kernel] at z4
          exact (List.cons.inj z4).1
        · obtain ⟨n, e, lt, _⟩ := num_made hm (fun w => absurd (by rw [e0] at w; exact Option.some.inj w) z)
          exact last n e lt
end
/-! ### read_thing, read_content of any text -/
def spa_read_thing (T : List Addr) (CT : Addr) : Sp := fun vs H Q E => ∃ (a : Addr) (xs : List Str) (tx : Str), vs = [.ref a, .str tx] ∧ H a = some (LS xs) ∧ GoodN xs ∧ tx.length ≤ 90000 ∧ Tb T H ∧
  (∀ (i n : Nat) H' t, i < xs.length → n < 10 → Ext T H H' → H t = none → H' t = some (.tup [.int (i : Nat), .int (n : Nat)]) → Q (.ref t) H') ∧ RowE T CT 0 H E
def spa_read_content (T : List Addr) (CT : Addr) : Sp := fun vs H Q E => ∃ (a : Addr) (xs : List Str) (tx : Str), vs = [.ref a, .str tx] ∧ H a = some (LS xs) ∧ GoodN xs ∧ tx.length ≤ 90000 ∧ Tb T H ∧
  (∀ cs : List Int, tx = showM xs cs → FitC xs cs → boundM cs ≤ 400 → ∀ H' p, Ext T H H' → H p = none → H' p = some (LI cs) → Q (.ref p) H') ∧ RowE T CT 0 H E
theorem zeros_fit {xs : List Str} : FitC xs (List.replicate xs.length 0) := ⟨List.length_replicate, fun x hx => by rw [(List.mem_replicate.mp hx).2]; exact ⟨by decide, by decide⟩⟩
theorem zeros_bound : ∀ n : Nat, boundM (List.replicate n (0 : Int)) = 1 := by
  have key : ∀ (n : Nat) (a : Int), (List.replicate n (0 : Int)).foldl (fun p c => p * (c + 1)) a = a := by
    intro n
    induction n with
    | zero => intro a; rfl
    | succ n ih =>
      intro a
      rw [List.replicate_succ, List.foldl_cons, ih]
      show a * (0 + 1) = a
      omega
  intro n
  exact key n 1
theorem zeros_show (xs : List Str) : showM xs (List.replicate xs.length 0) = ("nothing" : Str) := by
  have e : partsM xs (List.replicate xs.length 0) xs.length = [] := by
    cases e : partsM xs (List.replicate xs.length 0) xs.length with
    | nil => rfl
    | cons p r =>
      obtain ⟨i, hi, h, _⟩ := parts_all (xs := xs) (cs := List.replicate xs.length 0) (p := p) (by rw [e]; exact List.mem_cons_self)
      rw [List.getD_eq_getElem?_getD, List.getElem?_replicate, if_pos hi] at h
      exact absurd h (by decide)
  unfold showM
  rw [if_pos e]
section
variable {P : Program} {w : World} {K : PySem.W.Frag} {mg : Str → Option Value} {base : Heap} {T : List Addr} {C CP fI : Addr} {fdI : FuncData} {CT fT : Addr} {fdT : FuncData}
theorem oka_read_thing {f f1 : Addr} {fd fd1 : FuncData} {k : Nat} (M : Names mg) (X : Exs K mg C CP fI fdI) (Z : ExText K mg CT fT fdT) (D : Def K mg "read_thing" s_read_thing ["names", "text"] f fd) (D_read_number : Def K mg "read_number" s_read_number ["text", "figures"] f1 fd1) (G_read_number : FnOk P w K mg base (L2N.CX P w) (k + 2) f1 fd1 ["text", "figures"] (spa_read_number T CT)) : FnOk P w K mg base (L2N.CX P w) (k + 3) f fd ["names", "text"] (spa_read_thing T CT) := by
  have GT : FnOk P w K mg base CX0 (k + 1) fT fdT ["self", "row"] (sp_xinit CT) := ok_xinit X Z
  obtain ⟨tF, m_THING_FIGURES⟩ := M.c_THING_FIGURES
  refine D.F.okN sc_read_thing (fun vs H Q E h => ?_) (fun cdv A outer s H vs Q E hr h => ?_)
  · obtain ⟨a, xs, tx, rfl, _⟩ := h
    rfl
  · obtain ⟨a, xs, tx, rfl, ha, g, al, hT, q, R⟩ := h
    refine ⟨_, (pss_cons (ps_asg (pe_partition (pv 1) pe_str) (pg_tup rfl (pgs_cons (pg_name (i := 2) sc_read_thing.nd rfl (Or.inl rfl)) (pgs_cons (pg_name (i := 3) sc_read_thing.nd rfl (Or.inl rfl)) (pgs_cons (pg_name (i := 4) sc_read_thing.nd rfl (Or.inl rfl)) pgs_nil)))))
  (pss_cons (ps_if (pt_cmpR op_notIn_seq (pv 4) (pv 0) (by rfl))
   (pss_one (L2N.ps_raise rfl (L2N.takes_of rfl rfl rfl rfl) (pmk_oexN Z.oex Z.iC Z.tI GT hr Z.b pass0 (by rfl) Z.gT (pa_cons pe_int pa_nil))))
   pss_nil)
  (pss_one (ps_ret (pe_tup (pa_cons (pe_bm PySem.F.plainAttrs_list PySem.F.slot_list_index PySem.F.type_list_index mt_index (pv 0) (pa_cons (pv 4) pa_nil)) (pa_cons (pe_callS G_read_number hr (by rfl) D_read_number.g D_read_number.F.kp D_read_number.b (fun σ => L2N.passAt (L2N.takes_of rfl rfl rfl rfl) σ) (pa_cons (pv 2) (pa_cons (pe_glob (v := .int 1) (by rfl) m_THING_FIGURES ⟨_, rfl⟩) pa_nil))) pa_nil))))))), ?_⟩
    obtain ⟨l1, l2, l3⟩ := PyProof.Rows.fact_partition tx (" " : Str)
    refine ⟨_, rfl, ⟨_, rfl⟩, _, _, rfl, rfl, by decide +kernel, szL (by omega), fun p np => ?_⟩
    generalize (Txt.partition tx (" " : Str)).1 = u1 at l1 ⊢
    generalize (Txt.partition tx (" " : Str)).2.1 = u2 at l2 ⊢
    generalize (Txt.partition tx (" " : Str)).2.2 = u3 at l3 ⊢
    have s1 := same_upd (o := .tup [.str u1, .str u2, .str u3]) np
    have a1 := s1 _ _ ha
    refine ⟨p, _, rfl, SqT.of upd_same, rfl, _, _, rfl, _, _, rfl, _, _, rfl, rfl, ?_⟩
    have E1 : Ext T H _ := .same s1 hT
    generalize upd H p (.tup [.str u1, .str u2, .str u3]) = H1 at s1 a1 E1 ⊢
    refine ⟨_, rfl, _, rfl, a, _, rfl, .inl (SqL.of a1), rfl, flat_strs xs, decide (¬ u3 ∈ xs), ?_, ?_⟩
    · show V.bl (!inV (.str u3) (xs.map V.str)) = V.bl _
      rw [inV_strs]
      by_cases m : u3 ∈ xs
      · rw [decide_eq_true m, decide_eq_false (fun z => z m)]
        rfl
      · rw [decide_eq_false m, decide_eq_true m]
        rfl
    by_cases m : u3 ∈ xs
    · rw [decide_eq_false (fun z => z m)]
      obtain ⟨i, hx⟩ := List.mem_iff_getElem?.mp m
      refine ⟨_, rfl, .inl ⟨rfl, _, SqL.of a1⟩, _, rfl, a, _, _, i, _, rfl, rfl, SqL.of a1, rfl, flat_strs xs, get_strs hx, beq_self_eq_true u3, nodup_at g.nd hx, ?_⟩
      refine ⟨_, rfl, u1, 1, rfl, by omega, by decide, by decide, E1.t1, fun n en hn H2 e2 => ⟨by show 2 ≤ sizeLine; decide, fun t nt => ?_⟩, R.ext E1⟩
      have E2 := E1.trans e2
      exact q i n _ t (List.getElem?_eq_some_iff.mp hx).1 (by omega) (E2.new (E2.free _ nt)) (E2.free _ nt) upd_same
    · rw [decide_eq_true m]
      exact ⟨by show 1 ≤ 1000; decide, text_out (n := 0) (by decide) E1.t1 (R.ext E1)⟩
theorem oka_read_content {f f3 f4 f5 : Addr} {fd fd3 fd4 fd5 : FuncData} {k : Nat} (M : Names mg) (X : Exs K mg C CP fI fdI) (Z : ExText K mg CT fT fdT) (D : Def K mg "read_content" s_read_content ["names", "text"] f fd) (D_read_thing : Def K mg "read_thing" s_read_thing ["names", "text"] f3 fd3) (G_read_thing : FnOk P w K mg base (L2N.CX P w) (k + 2) f3 fd3 ["names", "text"] (spa_read_thing T CT)) (D_show_content : Def K mg "show_content" s_show_content ["names", "content"] f4 fd4) (D_within_bounds : Def K mg "within_bounds" s_within_bounds ["content"] f5 fd5) : FnOk P w K mg base (L2N.CX P w) (k + 3) f fd ["names", "text"] (spa_read_content T CT) := by
  have GT : FnOk P w K mg base CX0 (k + 1) fT fdT ["self", "row"] (sp_xinit CT) := ok_xinit X Z
  have G_show_content : FnOk P w K mg base CX0 (k + 2) f4 fd4 ["names", "content"] (sp_show_content K) := ok_show_content M D_show_content
  have G_within_bounds : FnOk P w K mg base CX0 (k + 2) f5 fd5 ["content"] sp_within_bounds := ok_within_bounds M D_within_bounds
  refine D.F.okN sc_read_content (fun vs H Q E h => ?_) (fun cdv A outer s H vs Q E hr h => ?_)
  · obtain ⟨a, xs, tx, rfl, _⟩ := h
    rfl
  · obtain ⟨a, xs, tx, rfl, ha, g, al, hT, q, R⟩ := h
    have few := g.few
    refine ⟨_, (pss_cons (ps_set (i := 2) sc_read_content.nd rfl (Or.inl rfl) (pe_op op_rep (pe_lst (pa_cons pe_int pa_nil)) (pe_callB call_len_seq (by rfl) M.len (by decide +kernel) (pa_cons (pv 0) pa_nil))))
  (pss_cons (ps_if (pt_cmpR op_eq (pv 1) pe_str (nomark _))
   (pss_one (ps_ret (pv 2)))
   pss_nil)
  (pss_cons (ps_for (passes_of rfl) rfl (pi_list (pe_split (pv 1) pe_str)) (pg_name (i := 3) sc_read_content.nd rfl (Or.inl rfl))
   (pss_cons (ps_asg (pe_callS G_read_thing hr (by rfl) D_read_thing.g D_read_thing.F.kp D_read_thing.b (fun σ => L2N.passAt (L2N.takes_of rfl rfl rfl rfl) σ) (pa_cons (pv 0) (pa_cons (pv 3) pa_nil))) (pg_tup rfl (pgs_cons (pg_name (i := 5) sc_read_content.nd rfl (Or.inl rfl)) (pgs_cons (pg_name (i := 4) sc_read_content.nd rfl (Or.inl rfl)) pgs_nil))))
  (pss_one (ps_asg (pv 4) (pg_sub (pv 2) (pv 5) set_list)))))
  (pss_cons (ps_if (PW.pt (pw_or (pt_cmpR op_ne (pe_call G_show_content hr (by rfl) D_show_content.g D_show_content.F.kp D_show_content.b .nil pass0 (pa_cons (pv 0) (pa_cons (pv 2) pa_nil))) (pv 1) (nomark _)) (pw_or1 (pt_not (pt_val (pe_call G_within_bounds hr (by rfl) D_within_bounds.g D_within_bounds.F.kp D_within_bounds.b .nil pass0 (pa_cons (pv 2) pa_nil)))))))
   (pss_one (L2N.ps_raise rfl (L2N.takes_of rfl rfl rfl rfl) (pmk_oexN Z.oex Z.iC Z.tI GT hr Z.b pass0 (by rfl) Z.gT (pa_cons pe_int pa_nil))))
   pss_nil)
  (pss_one (ps_ret (pv 2))))))), ?_⟩
    refine ⟨by show 1 ≤ sizeLine; decide, fun l nl => ?_⟩
    have s1 := same_upd (o := .lst [V.int 0]) nl
    refine ⟨_, rfl, a, _, rfl, .inl (SqL.of (s1 _ _ ha)), l, _, _, rfl, rfl, upd_same, by omega, by rw [List.length_map]; omega, szL (by rw [List.length_map]; show 1 * ((xs.length : Nat) : Int).toNat ≤ _; omega), fun B nB => ?_⟩
    have s2 := s1.trans (same_upd (o := .lst (List.replicate ((((xs.map V.str).length : Nat) : Int)).toNat [V.int 0]).flatten) nB)
    have hB : upd (upd H l (.lst [V.int 0])) B (.lst (List.replicate ((((xs.map V.str).length : Nat) : Int)).toNat [V.int 0]).flatten) B = some (LI (List.replicate xs.length 0)) := by
      rw [upd_same, zeros_map, Int.toNat_natCast, List.length_map]
    have nB0 : H B = none := s1.free nB
    generalize upd (upd H l (.lst [V.int 0])) B (.lst (List.replicate ((((xs.map V.str).length : Nat) : Int)).toNat [V.int 0]).flatten) = H1 at s2 hB ⊢
    have E1 : Ext T H H1 := .same s2 hT
    by_cases z : tx = ("nothing" : Str)
    · refine ⟨_, rfl, rfl, true, by rw [z]; decide +kernel, _, rfl, ?_⟩
      exact q _ (by rw [z, zeros_show]) zeros_fit (by rw [zeros_bound]; decide) H1 B E1 nB0 hB
    · refine ⟨_, rfl, rfl, false, congrArg V.bl (decide_eq_false fun z2 => z (V.str.inj z2)), ?_⟩
      refine ⟨_, rfl, ⟨_, rfl⟩, _, _, rfl, rfl, by decide +kernel, szL (by omega), fun L nL => ?_⟩
      have sl : ∀ p ∈ Txt.split tx (", " : Str), p.length ≤ tx.length := fun p hp => split_len hp
      generalize Txt.split tx (", " : Str) = pp at sl ⊢
      have hL : upd H1 L (.lst (pp.map V.str)) L = some (LS pp) := upd_same
      have hB1 := (same_upd (o := .lst (pp.map V.str)) nL) _ _ hB
      have nL0 : H L = none := E1.free _ nL
      have neLB : L ≠ B := fun e => by rw [e, hB] at nL; cases nL
      have E2 : Ext T H _ := E1.new (o := .lst (pp.map V.str)) nL0
      generalize upd H1 L (.lst (pp.map V.str)) = H2 at hL hB1 E2 ⊢
      refine ⟨L, rfl, ⟨_, SqL.of hL⟩, for_list (xs := pp.map V.str) (fun j σ H' => ∃ y3 y4 y5, σ = [some (.ref a), some (.str tx), some (.ref B), y3, y4, y5] ∧ Ext T H H' ∧ H' L = some (LS pp) ∧ ∃ ls : List Int, H' B = some (LI ls) ∧ FitC xs ls) ⟨none, none, none, rfl, E2, hL, _, hB1, zeros_fit⟩ (fun i σ H' _ hp => ?_) (fun j x σ H' hx hp => ?_) (fun σ H' hp => ?_)⟩
      · obtain ⟨_, _, _, _, _, h, _⟩ := hp
        exact SqL.of h
      · obtain ⟨y3, y4, y5, rfl, E3, hL3, ls, hB3, fc⟩ := hp
        obtain ⟨p, hp, rfl⟩ := of_get_strs hx
        have pl := sl p (List.mem_of_getElem? hp)
        refine ⟨_, rfl, _, rfl, a, xs, p, rfl, E3.lst ha, g, by omega, E3.t1, fun i n H4 tp hi hn e4 nt htp => ?_, R.ext E3⟩
        refine ⟨tp, _, rfl, SqT.of htp, rfl, _, _, rfl, _, _, rfl, rfl, ?_⟩
        have hB4 := e4.lst hB3
        have hL4 := e4.lst hL3
        have ll := fc.len
        refine ⟨_, rfl, _, rfl, _, rfl, B, _, _, i, rfl, rfl, hB4, ixN_nat (by rw [List.length_map]; omega), ?_⟩
        refine ⟨_, _, _, rfl, (E3.trans e4).new nB0, ?_, ls.set i (n : Int), ?_, ⟨by rw [List.length_set]; exact ll, fun x hx => ?_⟩⟩
        · rw [upd_ne neLB]
          exact hL4
        · exact at_set
        · rcases List.mem_or_eq_of_mem_set hx with m | m
          · exact fc.small _ m
          · omega
      · obtain ⟨y3, y4, y5, rfl, E3, hL3, ls, hB3, fc⟩ := hp
        have ll := fc.len
        refine ⟨_, rfl, _, rfl, a, B, xs, ls, rfl, E3.lst ha, hB3, g, fc, fun H4 s4 => ?_⟩
        have E4 : Ext T H H4 := E3.trans (.same s4 E3.t1)
        by_cases zt : showM xs ls = tx
        · by_cases zb : boundM ls ≤ 400
          · refine ⟨_, rfl, rfl, false, by simp [zt], _, rfl, B, ls, rfl, s4 _ _ hB3, fc.small, by rw [ll]; exact few, true, by rw [decide_eq_true zb], ?_⟩
            exact ⟨_, rfl, q ls zt.symm fc zb H4 B E4 nB0 (s4 _ _ hB3)⟩
          · refine ⟨_, rfl, rfl, false, by simp [zt], _, rfl, B, ls, rfl, s4 _ _ hB3, fc.small, by rw [ll]; exact few, false, by rw [decide_eq_false zb], ?_⟩
            exact ⟨by show 1 ≤ 1000; decide, text_out (n := 0) (by decide) E4.t1 (R.ext E4)⟩
        · refine ⟨_, rfl, rfl, true, ?_, ?_⟩
          · show V.bl (!decide (V.str (showM xs ls) = V.str tx)) = V.bl true
            rw [decide_eq_false (fun y => zt (V.str.inj y))]
            rfl
          · exact ⟨by show 1 ≤ 1000; decide, text_out (n := 0) (by decide) E4.t1 (R.ext E4)⟩
end
/-! ### read_goods, read_sold of any text; read_offer of a text that begins with no word -/
def spa_read_goods (T : List Addr) (CT : Addr) : Sp := fun vs H Q E => ∃ (a : Addr) (xs : List Str) (tx : Str), vs = [.ref a, .str tx] ∧ H a = some (LS xs) ∧ GoodN xs ∧ tx.length ≤ 90000 ∧ Tb T H ∧
  (∀ c : List Int, tx = showM xs c → Goods xs c → ∀ H' p, Ext T H H' → H p = none → H' p = some (LI c) → Q (.ref p) H') ∧ RowE T CT 0 H E
def spa_read_sold (T : List Addr) (CT : Addr) : Sp := fun vs H Q E => ∃ (a : Addr) (xs : List Str) (tx : Str), vs = [.ref a, .str tx] ∧ H a = some (LS xs) ∧ GoodN xs ∧ tx.length ≤ 90000 ∧ Tb T H ∧
  (∀ (c : List Int) (p : Int), tx = soldS xs c p → Goods xs c → 0 ≤ p → p < 1000000000000 → ∀ H' t b, Ext T H H' → H b = none → H' t = some (.tup [.ref b, .int p]) → H' b = some (LI c) → Q (.ref t) H') ∧ RowE T CT 0 H E
theorem goods_some {xs : List Str} {c : List Int} (h : Goods xs c) : showM xs c ≠ Str.empty := fun z => by
  obtain ⟨d, r, e, _⟩ := h.head
  rw [z] at e
  cases e
section
variable {P : Program} {w : World} {K : PySem.W.Frag} {mg : Str → Option Value} {base : Heap} {T : List Addr} {C CP fI : Addr} {fdI : FuncData} {CT fT : Addr} {fdT : FuncData}
theorem oka_read_goods {f f1 : Addr} {fd fd1 : FuncData} {k : Nat} (M : Names mg) (X : Exs K mg C CP fI fdI) (Z : ExText K mg CT fT fdT) (D : Def K mg "read_goods" s_read_goods ["names", "text"] f fd) (D_read_content : Def K mg "read_content" s_read_content ["names", "text"] f1 fd1) (G_read_content : FnOk P w K mg base (L2N.CX P w) (k + 2) f1 fd1 ["names", "text"] (spa_read_content T CT)) : FnOk P w K mg base (L2N.CX P w) (k + 3) f fd ["names", "text"] (spa_read_goods T CT) := by
  have GT : FnOk P w K mg base CX0 (k + 1) fT fdT ["self", "row"] (sp_xinit CT) := ok_xinit X Z
  refine D.F.okN sc_read_goods (fun vs H Q E h => ?_) (fun cdv A outer s H vs Q E hr h => ?_)
  · obtain ⟨a, xs, c, rfl, _⟩ := h
    rfl
  · obtain ⟨a, xs, tx, rfl, ha, g, al, hT, q, R⟩ := h
    refine ⟨_, (pss_cons (ps_set (i := 2) sc_read_goods.nd rfl (Or.inl rfl) (pe_callS G_read_content hr (by rfl) D_read_content.g D_read_content.F.kp D_read_content.b (fun σ => L2N.passAt (L2N.takes_of rfl rfl rfl rfl) σ) (pa_cons (pv 0) (pa_cons (pv 1) pa_nil))))
  (pss_cons (ps_if (pt_not (pt_val (pe_callB (cr_anyI rfl) (by rfl) M.any (by decide +kernel) (pa_cons (pv 2) pa_nil))))
   (pss_one (L2N.ps_raise rfl (L2N.takes_of rfl rfl rfl rfl) (pmk_oexN Z.oex Z.iC Z.tI GT hr Z.b pass0 (by rfl) Z.gT (pa_cons pe_int pa_nil))))
   pss_nil)
  (pss_one (ps_ret (pv 2))))), ?_⟩
    refine ⟨_, rfl, _, rfl, a, xs, tx, rfl, ha, g, al, hT, fun c e fc hb H1 p E1 np hp => ?_, R⟩
    cases z : anyI c with
    | true =>
      refine ⟨_, rfl, p, c, rfl, SqL.of hp, true, by rw [z], _, rfl, q c e ⟨fc, hb, ?_⟩ H1 p E1 np hp⟩
      unfold anyI at z
      obtain ⟨x, hx, hz⟩ := List.any_eq_true.mp z
      have := fc.small x hx
      simp only [bne_iff_ne, ne_eq] at hz
      exact ⟨x, hx, by omega⟩
    | false =>
      refine ⟨_, rfl, p, c, rfl, SqL.of hp, false, by rw [z], ?_⟩
      exact ⟨by show 1 ≤ 1000; decide, text_out (n := 0) (by decide) E1.t1 (R.ext E1)⟩
theorem oka_read_sold {f f1 f2 : Addr} {fd fd1 fd2 : FuncData} {k : Nat} (M : Names mg) (D : Def K mg "read_sold" s_read_sold ["names", "text"] f fd) (D_read_goods : Def K mg "read_goods" s_read_goods ["names", "text"] f1 fd1) (G_read_goods : FnOk P w K mg base (L2N.CX P w) k f1 fd1 ["names", "text"] (spa_read_goods T CT)) (D_read_number : Def K mg "read_number" s_read_number ["text", "figures"] f2 fd2) (G_read_number : FnOk P w K mg base (L2N.CX P w) k f2 fd2 ["text", "figures"] (spa_read_number T CT)) : FnOk P w K mg base (L2N.CX P w) (k + 1) f fd ["names", "text"] (spa_read_sold T CT) := by
  obtain ⟨tF, m_PRICE_FIGURES⟩ := M.c_PRICE_FIGURES
  refine D.F.okN sc_read_sold (fun vs H Q E h => ?_) (fun cdv A outer s H vs Q E hr h => ?_)
  · obtain ⟨a, xs, c, rfl, _⟩ := h
    rfl
  · obtain ⟨a, xs, tx, rfl, ha, g, al, hT, q, R⟩ := h
    refine ⟨_, (pss_cons (ps_asg (pe_m1 PySem.F.slot_str_rpartition PySem.F.type_str_rpartition mt_rpartition (pv 1) pe_str) (pg_tup rfl (pgs_cons (pg_name (i := 2) sc_read_sold.nd rfl (Or.inl rfl)) (pgs_cons (pg_name (i := 3) sc_read_sold.nd rfl (Or.inl rfl)) (pgs_cons (pg_name (i := 4) sc_read_sold.nd rfl (Or.inl rfl)) pgs_nil)))))
  (pss_one (ps_ret (pe_tup (pa_cons (pe_callS G_read_goods hr (by rfl) D_read_goods.g D_read_goods.F.kp D_read_goods.b (fun σ => L2N.passAt (L2N.takes_of rfl rfl rfl rfl) σ) (pa_cons (pv 0) (pa_cons (pv 2) pa_nil))) (pa_cons (pe_callS G_read_number hr (by rfl) D_read_number.g D_read_number.F.kp D_read_number.b (fun σ => L2N.passAt (L2N.takes_of rfl rfl rfl rfl) σ) (pa_cons (pv 4) (pa_cons (pe_glob (v := .int 12) (by rfl) m_PRICE_FIGURES ⟨_, rfl⟩) pa_nil))) pa_nil)))))), ?_⟩
    obtain ⟨l1, l2, l3⟩ := PyProof.Rows.fact_rpartition tx (" for " : Str)
    refine ⟨_, rfl, ⟨_, rfl⟩, _, _, rfl, rfl, by decide +kernel, szL (by omega), fun t nt => ?_⟩
    have ways := rpart_ways (a := tx) (y := (" for " : Str)) (by rw [tl_for]; exact fun z => nomatch z)
    generalize er : Txt.rpartition tx (" for " : Str) = r3 at l1 l2 l3 ways ⊢
    obtain ⟨u1, u2, u3⟩ := r3
    have l1 : u1.length ≤ tx.length := l1
    have l3 : u3.length ≤ tx.length := l3
    have s1 := same_upd (o := .tup [.str u1, .str u2, .str u3]) nt
    refine ⟨t, _, rfl, SqT.of upd_same, rfl, _, _, rfl, _, _, rfl, _, _, rfl, rfl, ?_⟩
    have E1 : Ext T H _ := .same s1 hT
    generalize upd H t (.tup [.str u1, .str u2, .str u3]) = H1 at s1 E1 ⊢
    refine ⟨_, rfl, _, rfl, a, xs, u1, rfl, s1 _ _ ha, g, by omega, E1.t1, fun c ec gs H2 b E2 nb hb => ?_, R.ext E1⟩
    have E12 := E1.trans E2
    refine ⟨_, rfl, u3, 12, rfl, by omega, by decide, by decide, E2.t1, fun n en hn H3 E3 => ⟨by show 2 ≤ sizeLine; decide, fun u nu => ?_⟩, R.ext E12⟩
    have E13 := E12.trans E3
    have nb0 := E1.free _ nb
    refine q c (n : Int) ?_ gs (by omega) (by omega) _ u b (E13.new (E13.free _ nu)) nb0 upd_same ((same_upd nu) _ _ (E3.lst hb))
    rcases ways with ⟨b', t', e', sum⟩ | e'
    · injection e' with e1 e2
      injection e2 with e2 e3
      show tx = showM xs c ++ (" for " : Str) ++ numS n
      rw [sum, ← e1, ← e3, ec, en]
    · injection e' with e1 e2
      exact absurd (ec.symm.trans e1) (goods_some gs)
end
/-! ### a list comprehension whose element may raise -/
theorem ns_fields {h : Heap} {C b : Addr} {m : Str → Option Value} {o : Obj} {us : Array Value} (hn : h.Ns C m) (e : h.get? b = some o) (hd : o.data = .fields us) : b ≠ C := fun z => by
  obtain ⟨oC, es, ep, hC, dC, _⟩ := hn
  rw [z, hC] at e
  cases e
  rw [dC] at hd
  cases hd
theorem traced_but {h h' B : Heap} {a C : Addr} {Z : Obj → Prop} {fl : Value} {m : Str → Option Value} (hn : h.Ns C m) (sb : Heap.SameBut C h h') (t : HandSPX.TracedZ h B a Z fl) : HandSPX.TracedZ h' B a Z fl := by
  obtain ⟨oe, vs, T, oT, ts, he, hz, hd, h1, nT, neT, hT, hdT, h3⟩ := t
  exact ⟨oe, vs, T, oT, ts, (sb.2 _ (ns_fields hn he hd)).trans he, hz, hd, h1, nT, neT, (sb.2 _ (ns_fields hn hT hdT)).trans hT, hdT, h3⟩
theorem flying_less {B B' h : Heap} {l : List Env} {a : Addr} {Z : Obj → Prop} (k : ∀ b o, B'.get? b = some o → B.get? b = some o) (f : HandSPX.FlyingZ B l a Z h) : HandSPX.FlyingZ B' l a Z h := by
  obtain ⟨f1, f2, f3, oe, vs, T, oT, ts, he, hz, hd, h1, nT, r⟩ := f
  have no : ∀ {b : Addr}, B.get? b = none → B'.get? b = none := fun {b} q => by
    cases e : B'.get? b with
    | none => rfl
    | some o =>
      have := k b o e
      rw [q] at this
      cases this
  exact ⟨fun b o e => f1 b o (k b o e), no f2, funFrames_none f3 fun L hL => no (f3.mem hL).1, oe, vs, T, oT, ts, he, hz, hd, h1, no nT, r⟩
section
variable {X : Cx} {pins : List (Addr × Obj)} {σ : L2.St} {H1 : Hp} {s1 s' : Shared} {E : XK} {u : Value} {C : Addr} {ce : Env} {m0 : Str → Option Value}
/-- what a call in the block lets out goes on in the def's own frame, behind the block C -/
theorem out_block (hs : X.stack = X.env :: X.outer) (hf : X.env.frame = some X.env.locals) (tk : L2N.Takes X (fun cls d _ H => E cls d H)) (I1 : Inv X pins σ H1 s1) (fC : FpOk X pins H1 C) (nC : s1.heap.Ns C m0) (cL : ce.locals = C) (cF : ce.frame = X.env.frame)
    (c : L2N.CX X.prog X.w X.stack H1 s1 E u s') : notedBy (model X.prog X.w) X.A ce (CompFails (model X.prog X.w) X.A X.xe ce) u s' := by
  obtain ⟨a, B, H2, cls, d, rfl, fl, hok, ub, na, os, ag, hE⟩ := c
  obtain ⟨f0, f1, f2, f3, f4, f5⟩ := fC
  have ok := I1.ok
  have hfr : X.A.frames = some (X.env :: X.outer) := by rw [ok.frames, hs]
  have Cst : C ∉ frs X.stack := fun hm => by
    rcases List.mem_cons.mp (I1.stkSub C hm) with z | z
    · exact f1 z
    · exact f2 z
  obtain ⟨oC, es, ep, hC, dC, rC⟩ := id nC
  have hCB := ub.keep C oC hC f0 Cst
  have h2C := ub.free C oC hC f0
  have stays : B.StaysIn s'.heap := fl.1
  -- the ground, the block left out
  obtain ⟨B', b1, b2⟩ := restrict B fun b => !decide (b = C)
  have lB : ∀ b o, B'.get? b = some o → B.get? b = some o ∧ b ≠ C := fun b o e => by
    by_cases z : b = C
    · rw [b2 b (by rw [z]; simp)] at e
      cases e
    · rw [b1 b (by simp [z])] at e
      exact ⟨e, z⟩
  have mB : ∀ b o, b ≠ C → B.get? b = some o → B'.get? b = some o := fun b o z e => by rw [b1 b (by simp [z])]; exact e
  have fl' := flying_less (fun b o e => (lB b o e).1) fl
  have hokB : HOk X.prog X.w H2 B' := fun b o q => (hok b o q).stay (fun c v hc r => mB c v (fun z => by
    rcases hc with hc | hc
    · rw [← hc, z, h2C] at q
      cases q
    · rw [z, h2C] at hc
      cases hc) r) (fun _ r => r) fun _ _ r => r
  -- what is seen of the def's heap: the ground, and the frames that stand
  obtain ⟨G, inG, notG⟩ := restrict s'.heap fun b => (B'.get? b).isSome || decide (b ∈ frs X.stack)
  have ground : ∀ b o, B'.get? b = some o → G.get? b = some o := fun b o e => (inG b (by rw [e]; rfl)).trans (fl'.1 b o e)
  have frame_ : ∀ b, b ∈ frs X.stack → G.get? b = s'.heap.get? b := fun b hb => inG b (by rw [decide_eq_true hb, Bool.or_true])
  have og : ∀ b o, G.get? b = some o → s'.heap.get? b = some o ∧ ((B'.get? b).isSome = true ∨ b ∈ frs X.stack) := by
    intro b o e
    by_cases q : ((B'.get? b).isSome || decide (b ∈ frs X.stack)) = true
    · exact ⟨(inG b q).symm.trans e, (Bool.or_eq_true _ _ ▸ q).imp_right of_decide_eq_true⟩
    · exact absurd ((notG b (Bool.eq_false_iff.mpr q)).symm.trans e) nofun
  have Gn : ∀ b o, G.get? b = some o → b ≠ C := by
    rintro b o e rfl
    rcases (og b o e).2 with some_ | isFrame
    · cases q : B'.get? b with
      | none => rw [q] at some_; cases some_
      | some o' => exact (lB b o' q).2 rfl
    · exact Cst isFrame
  have far : ∀ {b : Addr}, b ∉ [C] → b ≠ C := fun hx z => hx (List.mem_singleton.mpr z)
  have un : Un (frs X.stack) [C] H1 H2 s1.heap G :=
    { keep := fun b o e n hb hx => ground b o (mB b o (far hx) (ub.keep b o e n hb))
      slot := fun b o e n hb _ => (ub.slot b o e hb).elim fun sl q => ⟨sl, (frame_ b hb).trans q⟩
      free := fun b o e n _ => ub.free b o e n
      there := fun b o e hx => by
        by_cases hb : b ∈ frs X.stack
        · exact (ub.slot b o e hb).elim fun sl q => ⟨_, (frame_ b hb).trans q⟩
        · exact (ub.there b o e hb).elim fun o' q => ⟨o', ground b o' (mB b o' (far hx) q)⟩
      tups := ub.tups
      frzs := ub.frzs
      tbls := ub.tbls }
  have J : Inv X pins σ H2 { s1 with heap := G, gens := s'.gens, drawn := s'.drawn, toks := s'.toks } := by
    refine I1.call (ch := [C]) un (hokB.kept ground) ag fun b hb => ?_
    cases List.mem_singleton.mp hb
    exact ⟨f3, f1, f4, f5⟩
  have nbG : ∀ b o, G.get? b = some o → b ∉ frs X.stack → B'.get? b = some o := by
    intro b o e hb
    have q := og b o e
    cases z : B'.get? b with
    | none => exact absurd (q.2.resolve_right hb) (by rw [z]; exact Bool.false_ne_true)
    | some o' => exact (fl'.1 b o' z).symm.trans q.1
  have nC' : s'.heap.Ns C m0 := ⟨oC, es, ep, stays C oC hCB, dC, rC⟩
  rw [hs] at fl'
  show wpAny _ X.A (noteFrame (.ref a) ce) _ _ _
  rw [noteFrame_env _ cF]
  refine PXN.looks_onZ L2N.Zn.steady hfr hf fl' fun h1 hh up1 => ?_
  obtain ⟨k1, k2, k3, k4⟩ := hh
  have nC1 : h1.Ns ce.locals m0 := by rw [cL]; exact nC'.upToSlots fun b o e nf => up1 b o e nf
  refine ⟨m0, nC1, fun h2 m2 hn2 hs2 => ?_⟩
  have j1 : B'.StaysIn h2 := fun b o e => (hs2.2 b (by rw [cL]; exact (lB b o e).2)).trans (k1 b o e)
  have j3 := Heap.FunFrames.sameBut hs2 hn2 k3
  have j4 := traced_but nC1 hs2 k4
  obtain ⟨oe, vs, T, oT, ts, he, hz, hd, hv, _⟩ := id j4
  unfold PySem.passOn
  refine wpAny_bind (wpAny_field he hd hv ?_)
  rw [if_neg (show ¬ ((Value.ref T == Value.none) = true) from by simp)]
  refine wpAny_bind ?_
  rw [cF, hf]
  refine HandSPX.setFlight_anyZ j1 j3 j4 fun h3 t1 t2 t3 up3 => wpAny_throw (tk _ _ ?_)
  refine ⟨a, B', _, pins, σ, H2, cls, d, rfl, J, nbG, fun b o e nf => ?_, .inr (.inr (by rw [hs]; exact ⟨t1, k2, t2, t3⟩)), na, os, ag, hE⟩
  obtain ⟨sl, q1⟩ := up1 b o (og b o e).1 nf
  have q2 := (hs2.2 b (by rw [cL]; exact Gn b o e)).trans q1
  obtain ⟨sl3, q3⟩ := up3 b _ q2 nf
  exact ⟨sl3, q3⟩
end
/-- what is let out in a block, at its element -/
def xeB (X : Cx) (s : Shared) (H : Hp) (scope : Scope) (ce : Env) (fp : List Addr) (E : XK) : Value → Shared → Prop := fun u s' => ∃ (pn : List (Addr × Obj)) (τ : L2.St) (H1 : Hp) (s1 : Shared), Inv (X.blk s H scope ce fp) pn τ H1 s1 ∧ L2N.CX X.prog X.w X.stack H1 s1 E u s'
abbrev blkE (X : Cx) (s : Shared) (H : Hp) (scope : Scope) (ce : Env) (fp : List Addr) (E : XK) : Cx := { X.blk s H scope ce fp with xe := xeB X s H scope ce fp E }
section
variable {X : Cx} {s0 : Shared} {H0 : Hp} {scope : Scope} {ce : Env} {fp : List Addr} {E : XK} {pn : List (Addr × Obj)} {τ : L2.St} {H : Hp} {s : Shared}
theorem to_blkE (I : Inv (X.blk s0 H0 scope ce fp) pn τ H s) : Inv (blkE X s0 H0 scope ce fp E) pn τ H s :=
  let k := I.ok
  ⟨⟨k.mod, k.kind, k.glob, k.blt, k.above, k.inj, k.has, k.cab, k.hd, k.frames, k.stk, k.exf, k.bs, k.bsz, k.noex, k.exfs, k.funs, k.frf⟩, I.os, I.bare, I.base, I.loc, I.cell, I.free, I.freeC, I.pin, I.hok, I.len⟩
theorem of_blkE (I : Inv (blkE X s0 H0 scope ce fp E) pn τ H s) : Inv (X.blk s0 H0 scope ce fp) pn τ H s :=
  let k := I.ok
  ⟨⟨k.mod, k.kind, k.glob, k.blt, k.above, k.inj, k.has, k.cab, k.hd, k.frames, k.stk, k.exf, k.bs, k.bsz, k.noex, k.exfs, k.funs, k.frf⟩, I.os, I.bare, I.base, I.loc, I.cell, I.free, I.freeC, I.pin, I.hok, I.len⟩
theorem passB : PassesAt (L2N.CX (blkE X s0 H0 scope ce fp E).prog (blkE X s0 H0 scope ce fp E).w) (blkE X s0 H0 scope ce fp E) τ E := fun pn H s _ _ I c => ⟨pn, τ, H, s, of_blkE I, c⟩
end
section
variable {X : Cx}
theorem pe_lcX {elt tg iter : Expr} {ifs : List Expr} {scope : Scope} {own : List (Str × Nat)} {pos : Pos} {wi : TI} {g : TG} {tt : TT} {te : TE} {E : XK} (hs : X.stack = X.env :: X.outer) (hf : X.env.frame = some X.env.locals) (tk : L2N.Takes X (fun cls d _ H => E cls d H)) (hc : X.calm = true) (hN : X.N.Nodup) (hi : PI X tg iter wi) (ok : BlkOk X.N X.env.scope scope own)
    (hg : ∀ (s : Shared) (H : Hp) (C : Addr) (cl : List (Str × Addr)) (fp : List Addr), PG (blkE X s H scope (compEnvC scope cl C X.env) fp E) tg g)
    (ht : ∀ (s : Shared) (H : Hp) (C : Addr) (cl : List (Str × Addr)) (fp : List Addr), PTs (blkE X s H scope (compEnvC scope cl C X.env) fp E) ifs tt)
    (he : ∀ (s : Shared) (H : Hp) (C : Addr) (cl : List (Str × Addr)) (fp : List Addr), PE (blkE X s H scope (compEnvC scope cl C X.env) fp E) elt te)
    (hsf : ∀ x, foldedSetIterable iter X.env x = pure x := by intro _; rfl) : PE X (.ListComp elt [⟨tg, iter, ifs, 0⟩] scope pos) (tLc wi g tt te (own.map (·.2))) := by
  refine ⟨fun pins s σ H Q I h => ?_⟩
  rw [eval_ListComp]
  have hfree : ∀ y ∈ scope.names, y.2 = .free → ∃ c, X.env.cells.lookup y.1 = some c := fun y hy e => (ok.free y hy e).elim (fun k => I.ok.has _ (.inl k)) fun k => I.ok.has _ (.inr k)
  refine comprehension_at (use := none) rfl hsf (closure_ok hfree) ok.kind (fun y hy e => by rw [ok.uniq y hy, e]) (thn (hi.run pins s σ H _ I h) fun xv sa hx => thn hx fun itv sb hb => ?_)
  obtain ⟨it, fp, tn, J, H2, e, I2, T, st2, f2, q⟩ := hb
  subst e
  refine wpAny_newObj_type (newEnv_comp ?_) (by show 0 ≤ sizeLine; decide)
  generalize hD : sb.heap.objs.size = D
  have nD : H2 D = none := I2.hok.fresh (Nat.le_of_eq hD)
  obtain ⟨W, ⟨m0, w0⟩, turn⟩ := q D nD
  generalize hsc : ({ sb with heap := sb.heap.push { cls := .type "list", data := .seq ([] : List Value).toArray } } : Shared) = sc
  have Ic : Inv X pins σ (upd H2 D (.lst [])) sc := by
    subst hsc
    exact I2.laid (t' := sb.toks) (fun b o e => Heap.get?_push_of_some _ e) (Nat.le_of_eq hD) ⟨Nat.zero_le _, [], 0, .nil, by rw [← hD]; exact Heap.get?_push_size _ rfl⟩
  have ehc : sc.heap = sb.heap.push { cls := .type "list", data := .seq ([] : List Value).toArray } := by rw [← hsc]
  have fc : ∀ b ∈ fp, FpOk X pins (upd H2 D (.lst [])) b ∧ b < sc.heap.objs.size := fun b hb => by
    obtain ⟨o, e, _⟩ := T.obj _ _ st2 b hb
    have lt : b < sb.heap.objs.size := Heap.lt_size e
    refine ⟨⟨by rw [upd_ne (by rw [← hD]; exact Nat.ne_of_lt lt)]; exact (f2 b hb).1, (f2 b hb).2⟩, ?_⟩
    rw [ehc, Heap.size_push]
    exact Nat.lt_succ_of_lt lt
  have stc : tn 0 sc.heap := T.keep _ _ _ st2 fun b _ o e => by rw [ehc]; exact Heap.get?_push_of_some _ e
  have Id := block_start Ic ok hN fc
  have pg := hg sc (upd H2 D (.lst [])) sc.heap.objs.size (cellsFrom (sc.heap.objs.size + 1) scope.names (cloFrom X.env.cells scope.names [])) fp
  have pt := ht sc (upd H2 D (.lst [])) sc.heap.objs.size (cellsFrom (sc.heap.objs.size + 1) scope.names (cloFrom X.env.cells scope.names [])) fp
  have pe := he sc (upd H2 D (.lst [])) sc.heap.objs.size (cellsFrom (sc.heap.objs.size + 1) scope.names (cloFrom X.env.cells scope.names [])) fp
  show codeAny _ _ (.compStart (.ListComp elt [⟨tg, iter, ifs, 0⟩] scope pos) 0 (.ref it) (.ref D) (compEnvC scope (cellsFrom (sc.heap.objs.size + 1) scope.names (cloFrom X.env.cells scope.names [])) sc.heap.objs.size X.env)) (compEnds (model X.prog X.w) X.A X.xe none _ (.ref D) (compEnvC scope (cellsFrom (sc.heap.objs.size + 1) scope.names (cloFrom X.env.cells scope.names [])) sc.heap.objs.size X.env)) { sc with heap := pushCells (sc.heap.push { cls := .type "dict", data := .dict #[] }) scope.names }
  have nfp : ∀ b ∈ fp, (upd H2 D (.lst [])) b = none := fun b hb => (fc b hb).1.1
  generalize hce : compEnvC scope (cellsFrom (sc.heap.objs.size + 1) scope.names (cloFrom X.env.cells scope.names [])) sc.heap.objs.size X.env = ce at Id pg pt pe ⊢
  have cL : ce.locals = sc.heap.objs.size := by subst hce; rfl
  have cF : ce.frame = X.env.frame := by subst hce; rfl
  generalize hHc : upd H2 D (.lst []) = Hc at Ic Id pg pt pe w0 nfp fc
  generalize hsd : ({ sc with heap := pushCells (sc.heap.push { cls := .type "dict", data := .dict #[] }) scope.names } : Shared) = sd at Id ⊢
  have std : tn 0 sd.heap := T.keep _ _ _ stc fun b _ o e => by rw [← hsd]; exact pushCells_keeps _ _ _ _ (Heap.get?_push_of_some _ e)
  -- back in the def's own context
  have back : ∀ {pn : List (Addr × Obj)} {τ : L2.St} {H' : Hp} {s' : Shared}, Inv (X.blk sc Hc scope ce fp) pn τ H' s' → Inv X pins σ H' s' ∧ FpOk X pins H' ce.locals ∧ ∃ m, s'.heap.Ns ce.locals m := fun {pn τ H' s'} I' => by
    obtain ⟨m, hn, _⟩ := I'.loc
    have z : H' ce.locals = none := I'.free
    refine ⟨Ic.call' (ch := fp) I'.os I'.base I'.hok I'.bare fun b hb => ⟨(fc b hb).1.2.2.2.1, (fc b hb).1.2.1, (fc b hb).1.2.2.2.2.1, (fc b hb).1.2.2.2.2.2⟩, ?_, m, hn⟩
    rw [cL] at z ⊢
    exact Ic.fpOk (Nat.le_refl _) z
  have xo : ∀ {u : Value} {s' : Shared}, xeB X sc Hc scope ce fp E u s' → notedBy (model X.prog X.w) X.A ce (CompFails (model X.prog X.w) X.A X.xe ce) u s' := fun {u s'} hx => by
    obtain ⟨pn, τ, H1, s1, I1, c⟩ := hx
    obtain ⟨J1, fC, m, hn⟩ := back I1
    exact out_block hs hf tk J1 fC hn rfl cF c
  have stat : ∀ {τ : L2.St} {H' : Hp} {s' : Shared}, Inv (X.blk sc Hc scope ce fp) [] τ H' s' → (∀ b ∈ fp, H' b = none) → ∀ b ∈ fp, FpOk (X.blk sc Hc scope ce fp) [] H' b := fun {τ H' s'} I' hn b hb =>
    ⟨hn b hb, (I'.ok.exf b hb).1, I'.ok.exfs b hb, .inl hb, fun x c e => (I'.ok.exf b hb).2 x c e, fun p hp => absurd (show p ∈ ([] : List (Addr × Obj)) ++ [] from hp) (by simp)⟩
  have loop : codeAny (model X.prog X.w) X.A (.compLoop (.ListComp elt [⟨tg, iter, ifs, 0⟩] scope pos) 0 (.ref it) (.ref D) ce) (compEnds (model X.prog X.w) X.A X.xe none (EP X pins σ Q) (.ref D) ce) sd := by
    refine compLoop_any (fun n s' => ∃ i H', Inv (X.blk sc Hc scope ce fp) [] (wipe σ (own.map (·.2))) H' s' ∧ tn i s'.heap ∧ (∀ b ∈ fp, H' b = none) ∧ W i n H') ?_ m0 ⟨0, Hc, Id, std, nfp, w0⟩
    rintro n s5 ⟨i, H5, I5, st5, n5, w5⟩
    rcases turn i n H5 w5 with ⟨stop, qq⟩ | ⟨go, Nx, hNx, step⟩
    · refine thnF (T.done (X.blk sc Hc scope ce fp) rfl rfl rfl hc i [] s5 _ H5 (fun _ _ => False) I5 (stat I5 n5) st5 stop) fun r s6 ⟨hr, I6⟩ => ?_
      subst hr
      obtain ⟨I7, ⟨f0, f1, _, f3, f4, f5⟩, m, hn⟩ := back I6
      exact ⟨m, hn, fun h'' sb => ⟨.ref D, H5, I7.turned (t' := s6.toks) (fun b o hb e => (sb.2 b hb).trans e) f0 f1 f3 f4 f5, rfl, qq⟩⟩
    · refine thnF (T.item (X.blk sc Hc scope ce fp) rfl rfl rfl hc i [] s5 _ H5 (fun _ _ => False) I5 (stat I5 n5) st5 go) fun r s6 ⟨u, hr, h6⟩ => ?_
      subst hr
      refine thnF h6 fun _ s7 ⟨x, H7, I7, r7, y7, st7, n7⟩ => ?_
      have I7' := I7.pinned (stat I7 n7) (T.obj _ _ st7)
      refine wpAny_mono (pg.run _ s7 _ H7 x u _ (to_blkE I7') r7 (step x H7 y7)) (fun _ s8 ⟨σ8, H8, I8, hw8, q8⟩ => ?_) (fun _ _ hx => xo hx)
      refine wpAny_mono (pt.run _ s8 σ8 H8 _ I8 q8) (fun b s9 ⟨H9, I9, q9⟩ => ?_) (fun _ _ hx => xo hx)
      have fin : ∀ {s' : Shared} {H' : Hp}, Inv (X.blk sc Hc scope ce fp) ([] ++ pinsAt fp s7.heap) σ8 H' s' → Nx H' → ∃ m, m < n ∧ ∃ i H', Inv (X.blk sc Hc scope ce fp) [] (wipe σ (own.map (·.2))) H' s' ∧ tn i s'.heap ∧ (∀ b ∈ fp, H' b = none) ∧ W i m H' := fun {s' H'} I' nx => by
        obtain ⟨m', hm, w'⟩ := hNx H' nx
        have held : ∀ b ∈ fp, ∀ o, s7.heap.get? b = some o → s'.heap.get? b = some o ∧ H' b = none := fun b hb o e =>
          have z := I'.pin (b, o) (List.mem_append_right _ (List.mem_append_right _ (mem_pinsAt hb e)))
          ⟨z.1, z.2.1⟩
        refine ⟨m', hm, i + 1, H', (I'.unpinned (pins := [])).weak (by rw [← hw8, wipe_length]) (fun j v e => ?_), T.keep _ _ _ st7 fun b hb o e => (held b hb o e).1, fun b hb => ?_, w'⟩
        · rw [← hw8] at e
          exact (wipe_some e).1
        · obtain ⟨o, e, _⟩ := T.obj _ _ st7 b hb
          exact (held b hb o e).2
      cases b with
      | false =>
        simp only [Bool.false_eq_true, if_false] at q9 ⊢
        exact fin (of_blkE I9) q9
      | true =>
        simp only [if_true] at q9 ⊢
        refine wpAny_mono (pe.run _ s9 σ8 H9 _ I9 q9) (fun z s10 ⟨yv, H10, I10, r10, acc, hD10, hz10, nx⟩ => ?_) (fun _ _ hx => xo hx)
        exact app_ok (X := X.blk sc Hc scope ce fp) (of_blkE I10) hD10 hz10 r10 fun s11 I11 => fin I11 nx
  exact codeAny_compStart_list loop (T.self X.A 0 _ _ _ std loop)
end
/-! ### read_tier, read_many, read_add, read_offer of any text -/
theorem starts_cut {x y : Str} (hy : TL.tl y ≠ []) (h : Txt.startswith x y = true) : ∃ b, x = y ++ b ∧ b.length ≤ x.length := by
  rw [starts_iff x y hy] at h
  have h1 : (TL.tl x).take (TL.tl y).length = TL.tl y := eq_of_beq h
  have e : x = y ++ (⟨((TL.tl x).drop (TL.tl y).length).toArray⟩ : Str) := TL.ext_tl (by
    rw [TL.tl_append, TL.tl_mk]
    have := List.take_append_drop (TL.tl y).length (TL.tl x)
    rw [h1] at this
    exact this.symm)
  refine ⟨_, e, ?_⟩
  rw [TL.len_tl, TL.tl_mk, List.length_drop, ← TL.len_tl]
  omega
theorem num_some (n : Nat) : numS n ≠ Str.empty := fun z => by
  have h := congrArg TL.tl z
  rw [tl_numS] at h
  exact TL.numL_ne n h
theorem tier_some (t : Int × Int) : tierS t ≠ Str.empty := fun z => by
  have h := congrArg Str.length z
  unfold tierS at h
  rw [str_len_app, str_len_app, for_len] at h
  have h0 : (Str.empty : Str).length = 0 := by decide +kernel
  omega
theorem split_some (a : Str) : Txt.split a (", " : Str) ≠ [] := fun z => by
  have h := StrLaws.join_split a (", " : Str)
  rw [z] at h
  have e : a = Str.empty := h.symm
  subst e
  revert z
  decide +kernel
theorem tiers_len {ts : List (Int × Int)} (ne : ts ≠ []) : 5 ≤ (tiersS ts).length := by
  cases ts with
  | nil => exact absurd rfl ne
  | cons t r =>
    have h := (join_parts_len (", " : Str) ((t :: r).map tierS)).1 (tierS t) List.mem_cons_self
    have h5 : 5 ≤ (tierS t).length := by
      unfold tierS
      rw [str_len_app, str_len_app, for_len]
      omega
    exact Nat.le_trans h5 h
def spa_read_tier (T : List Addr) (CT : Addr) : Sp := fun vs H Q E => ∃ tx : Str, vs = [.str tx] ∧ tx.length ≤ 90000 ∧ Tb T H ∧
  (∀ t : Int × Int, tx = tierS t → 0 ≤ t.1 → t.1 ≤ 99 → 0 ≤ t.2 → t.2 < 1000000000000 → ∀ H' u, Ext T H H' → H u = none → H' u = some (.tup [.int t.1, .int t.2]) → Q (.ref u) H') ∧ RowE T CT 0 H E
def spa_read_many (T : List Addr) (CT : Addr) : Sp := fun vs H Q E => ∃ (a : Addr) (xs : List Str) (tx : Str), vs = [.ref a, .str tx] ∧ H a = some (LS xs) ∧ GoodN xs ∧ tx.length ≤ 90000 ∧ Tb T H ∧
  (∀ (c : List Int) (ts : List (Int × Int)), tx = showM xs c ++ (": " : Str) ++ tiersS ts → Goods xs c → FitT ts → ∀ H' v S, Ext T H H' → OwnO H' v (.many c ts) S → (∀ x ∈ S, H x = none) → S.Nodup → Q (.ref v) H') ∧ RowE T CT 0 H E
def spa_read_add (T : List Addr) (CT : Addr) : Sp := fun vs H Q E => ∃ (a : Addr) (xs : List Str) (tx : Str), vs = [.ref a, .str tx] ∧ H a = some (LS xs) ∧ GoodN xs ∧ tx.length ≤ 90000 ∧ Tb T H ∧
  (∀ (c : List Int) (p k : Int), tx = numS k.toNat ++ (": " : Str) ++ soldS xs c p → Goods xs c → 0 ≤ p → p < 1000000000000 → 0 ≤ k → k < 100 → ∀ H' v S, Ext T H H' → OwnO H' v (.add c p k) S → (∀ x ∈ S, H x = none) → S.Nodup → Q (.ref v) H') ∧ RowE T CT 0 H E
def spa_read_any (T : List Addr) (CT : Addr) : Sp := fun vs H Q E => ∃ (a : Addr) (xs : List Str) (tx : Str), vs = [.ref a, .str tx] ∧ H a = some (LS xs) ∧ GoodN xs ∧ tx.length ≤ 90000 ∧ Tb T H ∧
  (∀ o, tx = offerS xs o → ReadO xs o → ∀ H' v S, Ext T H H' → OwnO H' v o S → (∀ x ∈ S, H x = none) → S.Nodup → Q (.ref v) H') ∧ RowE T CT 0 H E
section
variable {P : Program} {w : World} {K : PySem.W.Frag} {mg : Str → Option Value} {base : Heap} {T : List Addr} {C CP fI : Addr} {fdI : FuncData} {CT fT : Addr} {fdT : FuncData}
theorem oka_read_tier {f f1 : Addr} {fd fd1 : FuncData} {k : Nat} (M : Names mg) (D : Def K mg "read_tier" s_read_tier ["text"] f fd) (D_read_number : Def K mg "read_number" s_read_number ["text", "figures"] f1 fd1) (G_read_number : FnOk P w K mg base (L2N.CX P w) k f1 fd1 ["text", "figures"] (spa_read_number T CT)) : FnOk P w K mg base (L2N.CX P w) (k + 1) f fd ["text"] (spa_read_tier T CT) := by
  obtain ⟨tF, m_PRICE_FIGURES⟩ := M.c_PRICE_FIGURES
  obtain ⟨tG, m_PLACE_FIGURES⟩ := M.c_PLACE_FIGURES
  refine D.F.okN sc_read_tier (fun vs H Q E h => ?_) (fun cdv A outer s H vs Q E hr h => ?_)
  · obtain ⟨tx, rfl, _⟩ := h
    rfl
  · obtain ⟨tx, rfl, al, hT, q, R⟩ := h
    refine ⟨_, (pss_cons (ps_asg (pe_partition (pv 0) pe_str) (pg_tup rfl (pgs_cons (pg_name (i := 1) sc_read_tier.nd rfl (Or.inl rfl)) (pgs_cons (pg_name (i := 2) sc_read_tier.nd rfl (Or.inl rfl)) (pgs_cons (pg_name (i := 3) sc_read_tier.nd rfl (Or.inl rfl)) pgs_nil)))))
  (pss_one (ps_ret (pe_tup (pa_cons (pe_callS G_read_number hr (by rfl) D_read_number.g D_read_number.F.kp D_read_number.b (fun σ => L2N.passAt (L2N.takes_of rfl rfl rfl rfl) σ) (pa_cons (pv 1) (pa_cons (pe_glob (v := .int 2) (by rfl) m_PLACE_FIGURES ⟨_, rfl⟩) pa_nil))) (pa_cons (pe_callS G_read_number hr (by rfl) D_read_number.g D_read_number.F.kp D_read_number.b (fun σ => L2N.passAt (L2N.takes_of rfl rfl rfl rfl) σ) (pa_cons (pv 3) (pa_cons (pe_glob (v := .int 12) (by rfl) m_PRICE_FIGURES ⟨_, rfl⟩) pa_nil))) pa_nil)))))), ?_⟩
    obtain ⟨l1, l2, l3⟩ := PyProof.Rows.fact_partition tx (" for " : Str)
    have ways := part_ways (a := tx) (y := (" for " : Str)) (by rw [tl_for]; exact fun z => nomatch z)
    refine ⟨_, rfl, ⟨_, rfl⟩, _, _, rfl, rfl, by decide +kernel, szL (by omega), fun t nt => ?_⟩
    generalize er : Txt.partition tx (" for " : Str) = r3 at l1 l2 l3 ways ⊢
    obtain ⟨u1, u2, u3⟩ := r3
    have l1 : u1.length ≤ tx.length := l1
    have l3 : u3.length ≤ tx.length := l3
    have s1 := same_upd (o := .tup [.str u1, .str u2, .str u3]) nt
    refine ⟨t, _, rfl, SqT.of upd_same, rfl, _, _, rfl, _, _, rfl, _, _, rfl, rfl, ?_⟩
    have E1 : Ext T H _ := .same s1 hT
    generalize upd H t (.tup [.str u1, .str u2, .str u3]) = H1 at s1 E1 ⊢
    refine ⟨_, rfl, u1, 2, rfl, by omega, by decide, by decide, E1.t1, fun n en hn H2 E2 => ?_, R.ext E1⟩
    have E12 := E1.trans E2
    refine ⟨_, rfl, u3, 12, rfl, by omega, by decide, by decide, E2.t1, fun m em hm H3 E3 => ⟨by show 2 ≤ sizeLine; decide, fun u nu => ?_⟩, R.ext E12⟩
    have E13 := E12.trans E3
    refine q ((n : Int), (m : Int)) ?_ (by show (0 : Int) ≤ (n : Int); omega) (by show (n : Int) ≤ 99; omega) (by show (0 : Int) ≤ (m : Int); omega) (by show (m : Int) < _; omega) _ u (E13.new (E13.free _ nu)) (E13.free _ nu) upd_same
    rcases ways with ⟨b', t', e', sum⟩ | ⟨e', _⟩
    · injection e' with e1 e2
      injection e2 with e2 e3
      show tx = numS n ++ (" for " : Str) ++ numS m
      rw [sum, ← e1, ← e3, en, em]
    · injection e' with e1 e2
      injection e2 with e2 e3
      exact absurd (em.symm.trans e3) (num_some m)
theorem oka_read_many {f f1 f2 : Addr} {fd fd1 fd2 : FuncData} {k : Nat} (M : Names mg) (X : Exs K mg C CP fI fdI) (Z : ExText K mg CT fT fdT) (D : Def K mg "read_many" s_read_many ["names", "text"] f fd) (D_read_goods : Def K mg "read_goods" s_read_goods ["names", "text"] f1 fd1) (G_read_goods : FnOk P w K mg base (L2N.CX P w) (k + 2) f1 fd1 ["names", "text"] (spa_read_goods T CT)) (D_read_tier : Def K mg "read_tier" s_read_tier ["text"] f2 fd2) (G_read_tier : FnOk P w K mg base (L2N.CX P w) (k + 2) f2 fd2 ["text"] (spa_read_tier T CT)) : FnOk P w K mg base (L2N.CX P w) (k + 3) f fd ["names", "text"] (spa_read_many T CT) := by
  have GT : FnOk P w K mg base CX0 (k + 1) fT fdT ["self", "row"] (sp_xinit CT) := ok_xinit X Z
  obtain ⟨tF, m_MOST_TIERS⟩ := M.c_MOST_TIERS
  refine D.F.okN sc_read_many (fun vs H Q E h => ?_) (fun cdv A outer s H vs Q E hr h => ?_)
  · obtain ⟨a, xs, tx, rfl, _⟩ := h
    rfl
  · obtain ⟨a, xs, tx, rfl, ha, g, al, hT, q, R⟩ := h
    refine ⟨_, (pss_cons (ps_asg (pe_partition (pv 1) pe_str) (pg_tup rfl (pgs_cons (pg_name (i := 3) sc_read_many.nd rfl (Or.inl rfl)) (pgs_cons (pg_name (i := 4) sc_read_many.nd rfl (Or.inl rfl)) (pgs_cons (pg_name (i := 5) sc_read_many.nd rfl (Or.inl rfl)) pgs_nil)))))
  (pss_cons (ps_set (i := 2) sc_read_many.nd rfl (Or.inl rfl) (pe_split (pv 5) pe_str))
  (pss_cons (ps_if (pt_cmpR op_gt (pe_callB call_len_seq (by rfl) M.len (by decide +kernel) (pa_cons (pv 2) pa_nil)) (pe_glob (v := .int 4) (by rfl) m_MOST_TIERS ⟨_, rfl⟩) (nomark _))
   (pss_one (L2N.ps_raise rfl (L2N.takes_of rfl rfl rfl rfl) (pmk_oexN Z.oex Z.iC Z.tI GT hr Z.b pass0 (by rfl) Z.gT (pa_cons pe_int pa_nil))))
   pss_nil)
  (pss_one (ps_ret (pe_tup (pa_cons pe_str (pa_cons (pe_callS G_read_goods hr (by rfl) D_read_goods.g D_read_goods.F.kp D_read_goods.b (fun σ => L2N.passAt (L2N.takes_of rfl rfl rfl rfl) σ) (pa_cons (pv 0) (pa_cons (pv 3) pa_nil))) (pa_cons (pe_lcX (E := E) (own := [("part", 6)]) rfl rfl (L2N.takes_of rfl rfl rfl rfl) (by rfl) sc_read_many.nd (pi_list (pv 2)) (blkOk_by (own := [("part", 6)]) (N := N_read_many) (sc := defScope s_read_many) (by decide +kernel)) (fun _ _ _ _ _ => (pg_name (i := 6) sc_read_many.nd rfl (Or.inl rfl))) (fun _ _ _ _ _ => pts_nil) (fun _ _ _ _ _ => (pe_callS G_read_tier hr (by rfl) D_read_tier.g D_read_tier.F.kp D_read_tier.b (fun _ => passB) (pa_cons (pv 6) pa_nil)))) pa_nil))))))))), ?_⟩
    obtain ⟨l1, l2, l3⟩ := PyProof.Rows.fact_partition tx (": " : Str)
    have ways := part_ways (a := tx) (y := (": " : Str)) (by rw [tl_colon]; exact fun z => nomatch z)
    refine ⟨_, rfl, ⟨_, rfl⟩, _, _, rfl, rfl, by decide +kernel, szL (by omega), fun t nt => ?_⟩
    generalize er : Txt.partition tx (": " : Str) = r3 at l1 l2 l3 ways ⊢
    obtain ⟨u1, u2, u3⟩ := r3
    have l1 : u1.length ≤ tx.length := l1
    have l3 : u3.length ≤ tx.length := l3
    have s1 := same_upd (o := .tup [.str u1, .str u2, .str u3]) nt
    refine ⟨t, _, rfl, SqT.of upd_same, rfl, _, _, rfl, _, _, rfl, _, _, rfl, rfl, ?_⟩
    have E1 : Ext T H _ := .same s1 hT
    generalize upd H t (.tup [.str u1, .str u2, .str u3]) = H1 at s1 E1 ⊢
    refine ⟨_, rfl, ⟨_, rfl⟩, _, _, rfl, rfl, by decide +kernel, szL (by omega), fun L nL => ?_⟩
    have sl : ∀ p ∈ Txt.split u3 (", " : Str), p.length ≤ u3.length := fun p hp => split_len hp
    have jn : Str.join (", " : Str) (Txt.split u3 (", " : Str)) = u3 := StrLaws.join_split u3 (", " : Str)
    have ppne := split_some u3
    have many := split_many (a := u3) (y := (", " : Str)) (by decide +kernel)
    generalize Txt.split u3 (", " : Str) = pp at sl jn many ppne ⊢
    have s2 := s1.trans (same_upd (o := .lst (pp.map V.str)) nL)
    have hL : upd H1 L (.lst (pp.map V.str)) L = some (LS pp) := upd_same
    have E2 : Ext T H _ := .same s2 hT
    generalize upd H1 L (.lst (pp.map V.str)) = H2 at s2 E2 hL ⊢
    refine ⟨_, rfl, L, _, rfl, .inl (SqL.of hL), _, _, rfl, rfl, ?_⟩
    by_cases few : pp.length ≤ 4
    · refine ⟨false, by rw [List.length_map]; exact congrArg V.bl (decide_eq_false (by omega)), ?_⟩
      refine ⟨_, rfl, _, rfl, a, xs, u1, rfl, s2 _ _ ha, g, by omega, E2.t1, fun c ec gs H3 b E3 nb hb => ?_, R.ext E2⟩
      have E03 := E2.trans E3
      have hL3 := E3.lst hL
      have nb0 := E2.free _ nb
      refine ⟨_, rfl, L, rfl, ⟨_, SqL.of hL3⟩, fun B nB => lc_list (xs := pp.map V.str) (fun i H' => Ext T H3 H' ∧ ∃ (us : List Addr) (ts : List (Int × Int)), H' B = some (.lst (us.map V.ref)) ∧ us.length = i ∧ pp.take i = ts.map tierS ∧ (∀ t ∈ ts, 0 ≤ t.1 ∧ t.1 ≤ 99 ∧ 0 ≤ t.2 ∧ t.2 < 1000000000000) ∧ ∀ (j : Nat) u (tt : Int × Int), us[j]? = some u → ts[j]? = some tt → H' u = some (.tup [.int tt.1, .int tt.2])) ⟨(Ext.refl E3.t1).new nB, [], [], upd_same, rfl, rfl, fun t h => (by cases h), fun j u tt h => by simp at h⟩ (fun i H' _ hp => SqL.of (hp.1.lst hL3)) (fun i x H4 hx hp => ?_) (fun H4 hp => ?_)⟩
      · obtain ⟨E4, us, ts, hB, hlu, ets, fts, hus⟩ := hp
        obtain ⟨p, hp, rfl⟩ := of_get_strs hx
        have hi := (List.getElem?_eq_some_iff.mp hp).1
        have pl := sl p (List.mem_of_getElem? hp)
        have lts : ts.length = i := by
          have := congrArg List.length ets
          rw [List.length_take, List.length_map] at this
          omega
        refine ⟨rfl, _, rfl, p, rfl, by omega, E4.t1, fun tt et t1 t2 t3 t4 H5 u E5 nu hu => ?_, R.ext (E03.trans E4)⟩
        have hB5 := E5.lst hB
        have neuB : u ≠ B := fun e => by rw [e, hB] at nu; cases nu
        refine ⟨_, hB5, szL' (by rw [List.length_map]; omega), (E4.trans E5).new nB, us ++ [u], ts ++ [tt], ?_, by rw [List.length_append, hlu]; rfl, ?_, fun t ht => ?_, fun j u' t' h1 h2 => ?_⟩
        · rw [upd_same, List.map_append]
          rfl
        · rw [take_succ_at hp, ets, List.map_append, et]
          rfl
        · rcases List.mem_append.mp ht with ht | ht
          · exact fts t ht
          · rw [List.mem_singleton.mp ht]
            exact ⟨t1, t2, t3, t4⟩
        · by_cases hj : j < us.length
          · rw [List.getElem?_append_left hj] at h1
            rw [List.getElem?_append_left (by omega)] at h2
            have h3 := E5.tup (hus j u' t' h1 h2)
            rw [upd_ne (ne_of h3 hB5 (fun z => nomatch z))]
            exact h3
          · have hj2 : j = us.length := by
              have := (List.getElem?_eq_some_iff.mp h1).1
              rw [List.length_append, List.length_singleton] at this
              omega
            subst hj2
            rw [List.getElem?_append_right (Nat.le_refl _), Nat.sub_self] at h1
            cases Option.some.inj h1
            rw [hlu, ← lts, List.getElem?_append_right (Nat.le_refl _), Nat.sub_self] at h2
            cases Option.some.inj h2
            rw [upd_ne neuB]
            exact hu
      · obtain ⟨E4, us, ts, hB, hlu, ets, fts, hus⟩ := hp
        rw [List.length_map] at hlu ets
        rw [List.take_length] at ets
        have lts : ts.length = pp.length := by rw [ets, List.length_map]
        refine ⟨by show 3 ≤ sizeLine; decide, fun v nv => ?_⟩
        have E04 := E03.trans E4
        have hb4 := E4.lst hb
        have nBb : b ≠ B := fun e => by rw [e] at hb; rw [hb] at nB; cases nB
        have etx : u3 = tiersS ts := by rw [← jn, ets]; rfl
        have pne : ts ≠ [] := fun z => ppne (by rw [ets, z]; rfl)
        have tpos : 1 ≤ ts.length := List.length_pos_iff.mpr pne
        refine q c ts ?_ gs ⟨tpos, by omega, fts⟩ _ v [b, B] (E04.new (E04.free _ nv)) ⟨b, B, rfl, upd_same, (same_upd nv) _ _ hb4, us, (same_upd nv) _ _ hB, by omega, fun j u tt h1 h2 => (same_upd nv) _ _ (hus j u tt h1 h2)⟩ (fun x hx => ?_) (List.nodup_cons.mpr ⟨fun z => nBb (List.mem_singleton.mp z), List.nodup_cons.mpr ⟨by simp, List.nodup_nil⟩⟩)
        · rcases ways with ⟨b', t', e', sum⟩ | ⟨e', _⟩
          · injection e' with e1 e2
            injection e2 with e2 e3
            rw [sum, ← e1, ← e3, ec, etx]
          · injection e' with e1 e2
            injection e2 with e2 e3
            have l5 := tiers_len pne
            rw [← etx, e3] at l5
            exact absurd l5 (by decide +kernel)
        · simp only [List.mem_cons, List.not_mem_nil, or_false] at hx
          rcases hx with rfl | rfl
          · exact nb0
          · exact E03.free _ nB
    · refine ⟨true, by rw [List.length_map]; exact congrArg V.bl (decide_eq_true (by omega)), ?_⟩
      exact ⟨by show 1 ≤ 1000; decide, text_out (n := 0) (by decide) E2.t1 (R.ext E2)⟩
theorem oka_read_add {f f1 f2 : Addr} {fd fd1 fd2 : FuncData} {k : Nat} (M : Names mg) (D : Def K mg "read_add" s_read_add ["names", "text"] f fd) (D_read_sold : Def K mg "read_sold" s_read_sold ["names", "text"] f1 fd1) (G_read_sold : FnOk P w K mg base (L2N.CX P w) k f1 fd1 ["names", "text"] (spa_read_sold T CT)) (D_read_number : Def K mg "read_number" s_read_number ["text", "figures"] f2 fd2) (G_read_number : FnOk P w K mg base (L2N.CX P w) k f2 fd2 ["text", "figures"] (spa_read_number T CT)) : FnOk P w K mg base (L2N.CX P w) (k + 1) f fd ["names", "text"] (spa_read_add T CT) := by
  obtain ⟨tG, m_PLACE_FIGURES⟩ := M.c_PLACE_FIGURES
  refine D.F.okN sc_read_add (fun vs H Q E h => ?_) (fun cdv A outer s H vs Q E hr h => ?_)
  · obtain ⟨a, xs, tx, rfl, _⟩ := h
    rfl
  · obtain ⟨a, xs, tx, rfl, ha, g, al, hT, q, R⟩ := h
    refine ⟨_, (pss_cons (ps_asg (pe_partition (pv 1) pe_str) (pg_tup rfl (pgs_cons (pg_name (i := 2) sc_read_add.nd rfl (Or.inl rfl)) (pgs_cons (pg_name (i := 3) sc_read_add.nd rfl (Or.inl rfl)) (pgs_cons (pg_name (i := 4) sc_read_add.nd rfl (Or.inl rfl)) pgs_nil)))))
  (pss_cons (ps_asg (pe_callS G_read_sold hr (by rfl) D_read_sold.g D_read_sold.F.kp D_read_sold.b (fun σ => L2N.passAt (L2N.takes_of rfl rfl rfl rfl) σ) (pa_cons (pv 0) (pa_cons (pv 4) pa_nil))) (pg_tup rfl (pgs_cons (pg_name (i := 5) sc_read_add.nd rfl (Or.inl rfl)) (pgs_cons (pg_name (i := 6) sc_read_add.nd rfl (Or.inl rfl)) pgs_nil))))
  (pss_one (ps_ret (pe_tup (pa_cons pe_str (pa_cons (pv 5) (pa_cons (pv 6) (pa_cons (pe_callS G_read_number hr (by rfl) D_read_number.g D_read_number.F.kp D_read_number.b (fun σ => L2N.passAt (L2N.takes_of rfl rfl rfl rfl) σ) (pa_cons (pv 2) (pa_cons (pe_glob (v := .int 2) (by rfl) m_PLACE_FIGURES ⟨_, rfl⟩) pa_nil))) pa_nil))))))))), ?_⟩
    obtain ⟨l1, l2, l3⟩ := PyProof.Rows.fact_partition tx (": " : Str)
    have ways := part_ways (a := tx) (y := (": " : Str)) (by rw [tl_colon]; exact fun z => nomatch z)
    refine ⟨_, rfl, ⟨_, rfl⟩, _, _, rfl, rfl, by decide +kernel, szL (by omega), fun t nt => ?_⟩
    generalize er : Txt.partition tx (": " : Str) = r3 at l1 l2 l3 ways ⊢
    obtain ⟨u1, u2, u3⟩ := r3
    have l1 : u1.length ≤ tx.length := l1
    have l3 : u3.length ≤ tx.length := l3
    have s1 := same_upd (o := .tup [.str u1, .str u2, .str u3]) nt
    refine ⟨t, _, rfl, SqT.of upd_same, rfl, _, _, rfl, _, _, rfl, _, _, rfl, rfl, ?_⟩
    have E1 : Ext T H _ := .same s1 hT
    generalize upd H t (.tup [.str u1, .str u2, .str u3]) = H1 at s1 E1 ⊢
    refine ⟨_, rfl, _, rfl, a, xs, u3, rfl, s1 _ _ ha, g, by omega, E1.t1, fun c p ec gs p0 p1 H2 u b E2 nb hu hb => ?_, R.ext E1⟩
    refine ⟨u, _, rfl, SqT.of hu, rfl, _, _, rfl, _, _, rfl, rfl, ?_⟩
    refine ⟨_, rfl, _, rfl, _, rfl, u1, 2, rfl, by omega, by decide, by decide, E2.t1, fun n en hn H3 E3 => ⟨by show 4 ≤ sizeLine; decide, fun v nv => ?_⟩, R.ext (E1.trans E2)⟩
    have E13 := (E1.trans E2).trans E3
    refine q c p (n : Int) ?_ gs p0 p1 (by omega) (by omega) _ v [b] (E13.new (E13.free _ nv)) ⟨b, rfl, upd_same, (same_upd nv) _ _ (E3.lst hb)⟩ (fun x hx => by rw [List.mem_singleton.mp hx]; exact E1.free _ nb) (List.nodup_cons.mpr ⟨by simp, List.nodup_nil⟩)
    rcases ways with ⟨b', t', e', sum⟩ | ⟨e', _⟩
    · injection e' with e1 e2
      injection e2 with e2 e3
      show tx = numS n ++ (": " : Str) ++ soldS xs c p
      rw [sum, ← e1, ← e3, en, ec]
    · injection e' with e1 e2
      injection e2 with e2 e3
      have l5 := congrArg Str.length (ec.symm.trans e3)
      unfold soldS at l5
      rw [str_len_app, str_len_app, for_len] at l5
      have h0 : (Str.empty : Str).length = 0 := by decide +kernel
      omega
theorem oka_read_any {f f1 f2 f3 : Addr} {fd fd1 fd2 fd3 : FuncData} {k : Nat} (M : Names mg) (D : Def K mg "read_offer" s_read_offer ["names", "text"] f fd) (D_read_many : Def K mg "read_many" s_read_many ["names", "text"] f1 fd1) (G_read_many : FnOk P w K mg base (L2N.CX P w) k f1 fd1 ["names", "text"] (spa_read_many T CT)) (D_read_add : Def K mg "read_add" s_read_add ["names", "text"] f2 fd2) (G_read_add : FnOk P w K mg base (L2N.CX P w) k f2 fd2 ["names", "text"] (spa_read_add T CT)) (D_read_sold : Def K mg "read_sold" s_read_sold ["names", "text"] f3 fd3) (G_read_sold : FnOk P w K mg base (L2N.CX P w) k f3 fd3 ["names", "text"] (spa_read_sold T CT)) : FnOk P w K mg base (L2N.CX P w) (k + 1) f fd ["names", "text"] (spa_read_any T CT) := by
  refine D.F.okN sc_read_offer (fun vs H Q E h => ?_) (fun cdv A outer s H vs Q E hr h => ?_)
  · obtain ⟨a, xs, tx, rfl, _⟩ := h
    rfl
  · obtain ⟨a, xs, tx, rfl, ha, g, al, hT, q, R⟩ := h
    refine ⟨_, (pss_cons (ps_if (pt_val (pe_m1 PySem.F.slot_str_startswith PySem.F.type_str_startswith mt_startswith (pv 1) pe_str))
   (pss_one (ps_ret (pe_callS G_read_many hr (by rfl) D_read_many.g D_read_many.F.kp D_read_many.b (fun σ => L2N.passAt (L2N.takes_of rfl rfl rfl rfl) σ) (pa_cons (pv 0) (pa_cons (pe_m1 PySem.F.slot_str_removeprefix PySem.F.type_str_removeprefix mt_removeprefix (pv 1) pe_str) pa_nil)))))
   pss_nil)
  (pss_cons (ps_if (pt_val (pe_m1 PySem.F.slot_str_startswith PySem.F.type_str_startswith mt_startswith (pv 1) pe_str))
   (pss_one (ps_ret (pe_callS G_read_add hr (by rfl) D_read_add.g D_read_add.F.kp D_read_add.b (fun σ => L2N.passAt (L2N.takes_of rfl rfl rfl rfl) σ) (pa_cons (pv 0) (pa_cons (pe_m1 PySem.F.slot_str_removeprefix PySem.F.type_str_removeprefix mt_removeprefix (pv 1) pe_str) pa_nil)))))
   pss_nil)
  (pss_cons (ps_asg (pe_callS G_read_sold hr (by rfl) D_read_sold.g D_read_sold.F.kp D_read_sold.b (fun σ => L2N.passAt (L2N.takes_of rfl rfl rfl rfl) σ) (pa_cons (pv 0) (pa_cons (pv 1) pa_nil))) (pg_tup rfl (pgs_cons (pg_name (i := 2) sc_read_offer.nd rfl (Or.inl rfl)) (pgs_cons (pg_name (i := 3) sc_read_offer.nd rfl (Or.inl rfl)) pgs_nil))))
  (pss_one (ps_ret (pe_tup (pa_cons pe_str (pa_cons (pv 2) (pa_cons (pv 3) pa_nil))))))))), ?_⟩
    have n1 : TL.tl ("many " : Str) ≠ [] := by rw [tl_manyW]; exact fun z => nomatch z
    have n2 : TL.tl ("with " : Str) ≠ [] := by rw [tl_withW]; exact fun z => nomatch z
    cases w1 : Txt.startswith tx ("many " : Str) with
    | true =>
      obtain ⟨b, rfl, lb⟩ := starts_cut n1 w1
      refine ⟨_, rfl, ⟨_, rfl⟩, _, _, rfl, rfl, true, by rw [w1], ?_⟩
      refine ⟨_, rfl, _, rfl, ⟨_, rfl⟩, _, _, rfl, rfl, szL (by omega), ?_⟩
      rw [remove_app _ _ n1]
      exact ⟨a, xs, b, rfl, ha, g, by omega, hT, fun c ts e gs ft H' v S E1 ow ns nd => q (.many c ts) (by rw [e]; rfl) ⟨⟨gs.1, ft⟩, gs⟩ H' v S E1 ow ns nd, R⟩
    | false =>
      refine ⟨_, rfl, ⟨_, rfl⟩, _, _, rfl, rfl, false, by rw [w1], ?_⟩
      cases w2 : Txt.startswith tx ("with " : Str) with
      | true =>
        obtain ⟨b, rfl, lb⟩ := starts_cut n2 w2
        refine ⟨_, rfl, ⟨_, rfl⟩, _, _, rfl, rfl, true, by rw [w2], ?_⟩
        refine ⟨_, rfl, _, rfl, ⟨_, rfl⟩, _, _, rfl, rfl, szL (by omega), ?_⟩
        rw [remove_app _ _ n2]
        exact ⟨a, xs, b, rfl, ha, g, by omega, hT, fun c p k e gs p0 p1 k0 k1 H' v S E1 ow ns nd => q (.add c p k) (by rw [e]; rfl) ⟨⟨gs.1, p0, p1, k0, k1⟩, gs⟩ H' v S E1 ow ns nd, R⟩
      | false =>
        refine ⟨_, rfl, ⟨_, rfl⟩, _, _, rfl, rfl, false, by rw [w2], ?_⟩
        refine ⟨_, rfl, _, rfl, a, xs, tx, rfl, ha, g, al, hT, fun c p et gs p0 p1 H1 u b E1 nb hu hb => ?_, R⟩
        refine ⟨u, _, rfl, SqT.of hu, rfl, _, _, rfl, _, _, rfl, rfl, ?_⟩
        refine ⟨_, rfl, _, rfl, by show 3 ≤ sizeLine; decide, fun v nv => ?_⟩
        exact q (.pack c p) et ⟨⟨gs.1, p0, p1⟩, gs⟩ _ v [b] (E1.new (E1.free _ nv)) ⟨b, rfl, upd_same, (same_upd nv) _ _ hb⟩ (fun x hx => by rw [List.mem_singleton.mp hx]; exact nb) (List.nodup_cons.mpr ⟨by simp, List.nodup_nil⟩)
end
/-! ### read_shop of any rows: NoText is raised again with its row's place -/
section
variable {P : Program} {w : World} {K : PySem.W.Frag} {mg : Str → Option Value} {base : Heap} {C CP fI : Addr} {fdI : FuncData} {CT fT : Addr} {fdT : FuncData}
theorem ok_xinitH {k : Nat} (X : Exs K mg C CP fI fdI) (Z : ExText K mg CT fT fdT) : L2H.FnH P w K mg base CX0 (k + 1) fT fdT ["self", "row"] (sp_xinit CT) := by
  obtain ⟨oc, od, kV, doc, pm, an, cdv, ct, osl, rfl, lk, hcd⟩ := Z.F.ex
  refine L2H.fn_ofH lk hcd sc_xinit (fun vs H Q E h => ?_) fun A outer s H vs Q E p _ _ h => ?_
  · obtain ⟨a, n, rfl, _⟩ := h
    rfl
  · obtain ⟨a, n, rfl, hn, ha, q⟩ := h
    refine ⟨_, pss_cons (ps_expr (pe_binit (by rfl) X.gP X.rP X.gaP X.vP (pa_cons (pv 0) (pa_cons (pe_joinedE (.cons pe_str (.cons (pe_fmt (pv 1)) (.cons pe_str .nil)))) pa_nil)))) (pss_one (ps_ost (pv 0) (pv 1))), ?_⟩
    have ln := lt100_len hn
    refine ⟨_, rfl, _, rfl, by decide +kernel, _, rfl, .inr ⟨_, rfl, lt100_log hn, _, rfl, ?_, _, rfl, ?_, ?_⟩⟩
    · rw [strE_len, strE_len]
      exact Nat.le_trans (Nat.add_le_add_left ln _) (by decide +kernel)
    · rw [strE_len, strE_len, strE_len]
      exact Nat.le_trans (Nat.add_le_add_right (Nat.add_le_add_left ln _) _) (by decide +kernel)
    · refine ⟨a, CT, _, rfl, by show 1 ≤ 1000; decide, Z.oex, ha, ?_⟩
      exact ⟨_, rfl, _, rfl, a, CT, rfl, Z.oex, Z.nr, .inl ⟨ha, fun dx nd ne => q dx nd ne⟩⟩
end
/-- a try with one except clause, under a name -/
def tTryO (K : PySem.W.Frag) (c : Value) (ts : Addr → Value → Option Addr → TS) (Wout : WX) (tb : WX → TS) : TS := fun D σ H => tb (wOnly K c ts Wout D) D σ H
theorem ps_tryO {X : Cx} {x : Str} {c : Value} {body suite : List Stmt} {b₀ : Stmt} {np pos pos' : Pos} {tb : WX → TS} {ts : Addr → Value → Option Addr → TS} {Wout : WX} (hs : X.stack = X.env :: X.outer) (hf : X.env.frame = some X.env.locals) (hc : L2.Names X x c) (hpa : ∀ hd : Option Value, PassesOwnAt (model X.prog X.w) (X.A.mark hd) X.A X.env X.xe) (tk : L2.Takes X Wout)
    (hb : ∀ (W : WX) (pn : List (Addr × Obj)) (xe : Value → Shared → Prop), L2N.Takes (X.tr pn xe) W → L2.Takes (X.tr pn xe) (L2H.wPass X.K c Wout) → PassesOwn (model X.prog X.w) X.A X.env xe → PSs (X.tr pn xe) body (tb W))
    (hsu : ∀ (a : Addr) (oe : Obj) (cls : Value) (d : Option Addr) (pn : List (Addr × Obj)), L2N.Zn cls d oe → (∃ vs, oe.data = .fields vs) → L2.Takes (L2H.suiteX X a ((a, oe) :: pn)) Wout → L2H.HotC (L2H.suiteX X a ((a, oe) :: pn)) → PSs (L2H.suiteX X a ((a, oe) :: pn)) (b₀ :: suite) (ts a cls d)) :
    PS X (.Try body [.ExceptHandler (some (.Name x np)) none (b₀ :: suite) pos'] [] [] pos) (tTryO X.K c ts Wout tb) := L2H.ps_try_onlyX hs hf hc hpa tk hb hsu
theorem Told.snoc {T : List Addr} {H H1 H3 : Hp} {B v : Addr} {us : List Addr} {os : List Ofr} {Ss : List (List Addr)} {o : Ofr} {S : List Addr} (td : Told H H1 B us os Ss) (E1 : Ext T H H1) (E13 : Ext T H1 H3) (ow : OwnO H3 v o S) (nS : ∀ x ∈ S, H1 x = none) (ndS : S.Nodup) : Told H (upd H3 B (.lst ((us ++ [v]).map V.ref))) B (us ++ [v]) (os ++ [o]) (Ss ++ [S]) := by
  have hq3 := E13.lst td.atq
  have lu := td.len
  have lS := td.lenS
  have nBS : B ∉ S := fun z => by
    have := nS B z
    rw [td.atq] at this
    cases this
  refine ⟨upd_same, by rw [List.length_append, List.length_append, lu]; rfl, by rw [List.length_append, List.length_append, lS]; rfl, fun j v' o' S' h1 h2 h3 => ?_, fun S' hS' x hx => ?_, td.newq, fun S' hS' => ?_, fun S' hS' => ?_, fun i' j' S1 S2 hij h1 h2 x hx => ?_⟩
  · rcases snoc_at h1 with ⟨l1, h1⟩ | ⟨l1, rfl⟩
    · rcases snoc_at h2 with ⟨l2, h2⟩ | ⟨l2, rfl⟩
      · rcases snoc_at h3 with ⟨l3, h3⟩ | ⟨l3, rfl⟩
        · exact ((td.each j v' o' S' h1 h2 h3).ext E13).upd hq3 (td.nq S' (List.mem_of_getElem? h3))
        · omega
      · omega
    · rcases snoc_at h2 with ⟨l2, h2⟩ | ⟨l2, rfl⟩
      · omega
      · rcases snoc_at h3 with ⟨l3, h3⟩ | ⟨l3, rfl⟩
        · omega
        · exact ow.upd hq3 nBS
  · rcases List.mem_append.mp hS' with z | z
    · exact td.new S' z x hx
    · rw [List.mem_singleton.mp z] at hx
      exact E1.free _ (nS x hx)
  · rcases List.mem_append.mp hS' with z | z
    · exact td.nq S' z
    · rw [List.mem_singleton.mp z]
      exact nBS
  · rcases List.mem_append.mp hS' with z | z
    · exact td.nd S' z
    · rw [List.mem_singleton.mp z]
      exact ndS
  · rcases snoc_at h1 with ⟨l1, g1⟩ | ⟨l1, rfl⟩
    · rcases snoc_at h2 with ⟨l2, g2⟩ | ⟨l2, rfl⟩
      · exact td.apart i' j' S1 S2 hij g1 g2 x hx
      · intro z
        have nx := nS x z
        have hio : i' < os.length := by omega
        obtain ⟨ys, hy⟩ := (td.each i' (us[i']'(by rw [lu]; exact hio)) (os[i']) S1 (List.getElem?_eq_getElem _) (List.getElem?_eq_getElem _) g1).lists x hx
        rw [hy] at nx
        cases nx
    · have := (List.getElem?_eq_some_iff.mp h2).1
      rw [List.length_append, List.length_singleton] at this
      omega
/-- the text of an offer -/
def ReadR (xs : List Str) (p : Str) : Prop := ∃ o, p = offerS xs o ∧ ReadO xs o
def spx_read_offer (T : List Addr) (CT : Addr) : Sp := fun vs H Q E => sp_read_offer T vs H Q E ∨ spa_read_any T CT vs H Q E
def spx_read_shop (T : List Addr) (CT : Addr) : Sp := fun vs H Q E => ∃ (a r : Addr) (xs rows : List Str), vs = [.ref a, .ref r] ∧ H a = some (LS xs) ∧ H r = some (LS rows) ∧ GoodN xs ∧ rows.length ≤ 8 ∧ (∀ p ∈ rows, p.length ≤ 90000) ∧ Tb T H ∧
  (∀ os, rows = os.map (offerS xs) → (∀ o ∈ os, ReadO xs o) → ∀ H' q us Ss, Ext T H H' → Told H H' q us os Ss → Q (.ref q) H') ∧
  (∀ (n : Nat) p, rows[n]? = some p → ¬ ReadR xs p → (∀ (j : Nat) p', j < n → rows[j]? = some p' → ReadR xs p') → RowE T CT n H E)
section
variable {P : Program} {w : World} {K : PySem.W.Frag} {mg : Str → Option Value} {base : Heap} {T : List Addr} {C CP fI : Addr} {fdI : FuncData} {CT fT : Addr} {fdT : FuncData}
theorem oka_read_shop {f f1 : Addr} {fd fd1 : FuncData} {k : Nat} (M : Names mg) (X : Exs K mg C CP fI fdI) (Z : ExText K mg CT fT fdT) (xT : PySem.W.exmOne K (.ref CT) (.ref CT) = some true) (D : Def K mg "read_shop" s_read_shop ["names", "rows"] f fd) (D_read_offer : Def K mg "read_offer" s_read_offer ["names", "text"] f1 fd1) (G_read_offer : FnOk P w K mg base (L2N.CX P w) (k + 2) f1 fd1 ["names", "text"] (spx_read_offer T CT)) : FnOk P w K mg base (L2.CX P w) (k + 3) f fd ["names", "rows"] (spx_read_shop T CT) := by
  have GH : L2H.FnH P w K mg base CX0 (k + 1) fT fdT ["self", "row"] (sp_xinit CT) := ok_xinitH X Z
  refine D.F.okX sc_read_shop (fun vs H Q E h => ?_) (fun cdv A outer s H vs Q E hr h => ?_)
  · obtain ⟨a, r, xs, rows, rfl, _⟩ := h
    rfl
  · obtain ⟨a, r, xs, rows, rfl, ha, hrr, g, h8, hl, hT, q, R⟩ := h
    refine ⟨_, (pss_cons (ps_set (i := 2) sc_read_shop.nd rfl (Or.inl rfl) (pe_lst pa_nil))
  (pss_cons (ps_for (passes_of rfl) rfl (pi_enum (by rfl) M.enumerate (pa_cons (pv 1) pa_nil)) (pg_tup rfl (pgs_cons (pg_name (i := 3) sc_read_shop.nd rfl (Or.inl rfl)) (pgs_cons (pg_name (i := 4) sc_read_shop.nd rfl (Or.inl rfl)) pgs_nil)))
   (pss_one (ps_tryO (tb := fun W => tDrop (tBM K "list" rAppend (tVar 2) (tCons (tCallS (spx_read_offer T CT) (WE W) (tCons (tVar 0) (tCons (tVar 4) tNil))) tNil))) rfl rfl ⟨rfl, by decide, Or.inl Z.gT⟩ (fun hd => L2H.passesAt_of rfl hd) (takes_of rfl rfl rfl rfl) (fun W pn xe tk tk2 _ => pss_one (ps_expr (by exact (pe_bm PySem.F.plainAttrs_list PySem.F.slot_list_append PySem.F.type_list_append mt_append (pv 2) (pa_cons (pe_callS G_read_offer hr (by rfl) D_read_offer.g D_read_offer.F.kp D_read_offer.b (fun σ => L2N.passAt tk σ) (pa_cons (pv 0) (pa_cons (pv 4) pa_nil))) pa_nil))))) (fun a oe cls d pn _ _ tk hot => pss_one (L2H.ps_raiseHN hot tk (L2H.pmk5_oexH Z.oex Z.iC Z.tI GH (L2H.roomH_mark hr _) hot Z.b pass0 (by rfl) Z.gT (pa_cons (pv 3) pa_nil)))))))
  (pss_one (ps_ret (pv 2))))), ?_⟩
    refine ⟨by decide, fun B nB => ?_⟩
    have s0 := same_upd (o := .lst []) nB
    refine ⟨_, rfl, r, _, rfl, SqL.of (s0 _ _ hrr), for_it (walk_enum (K := K) (a := r) (xs := rows.map V.str)) (fun i σ H' => ∃ (y3 y4 : Option V) (us : List Addr) (os : List Ofr) (Ss : List (List Addr)), σ = [some (.ref a), some (.ref r), some (.ref B), y3, y4] ∧ Ext T H H' ∧ rows.take i = os.map (offerS xs) ∧ (∀ o ∈ os, ReadO xs o) ∧ Told H H' B us os Ss) ⟨none, none, [], [], [], rfl, .same s0 hT, rfl, (fun o h => by cases h), ⟨upd_same, rfl, rfl, fun i v o S h => by simp at h, (fun S h => by cases h), nB, (fun S h => by cases h), (fun S h => by cases h), fun i j S S' _ h => by simp at h⟩⟩ (fun i σ H' _ hp => ?_) (fun i x σ H1 H2 hi hp hy => ?_) (fun σ H1 hp => ?_)⟩
    · obtain ⟨_, _, _, _, _, _, E1, _⟩ := hp
      exact SqL.of (E1.lst hrr)
    · obtain ⟨y3, y4, us, os, Ss, rfl, E1, eos, ros, td⟩ := hp
      obtain ⟨Tt, x1, x2, rfl, nT, rfl, e1, e2⟩ := hy
      cases Option.some.inj e1
      obtain ⟨tx, htx, rfl⟩ := of_get_strs e2
      rw [List.length_map] at hi
      have lo : os.length = i := by
        have := congrArg List.length eos
        rw [List.length_take, List.length_map] at this
        omega
      have s12 := same_upd (o := .tup [.int (i : Nat), .str tx]) nT
      have hTt : upd H1 Tt (.tup [.int (i : Nat), .str tx]) Tt = some (.tup [.int (i : Nat), .str tx]) := upd_same
      have E12 : Ext T H1 (upd H1 Tt (.tup [.int (i : Nat), .str tx])) := .same s12 E1.t1
      generalize upd H1 Tt (.tup [.int (i : Nat), .str tx]) = H2 at s12 hTt E12 ⊢
      have E2 := E1.trans E12
      have hq2 := E12.lst td.atq
      refine ⟨Tt, _, rfl, SqT.of hTt, rfl, _, _, rfl, _, _, rfl, rfl, ?_⟩
      refine ⟨_, rfl, .inl ⟨rfl, _, SqL.of hq2⟩, _, rfl, _, rfl, ?_⟩
      by_cases rd : ReadR xs tx
      · obtain ⟨o, rfl, ro⟩ := rd
        refine .inl ⟨a, xs, o, rfl, E2.lst ha, g, ro, E2.t1, fun H3 v S E3 ow nS ndS => ?_⟩
        have E13 := E12.trans E3
        have nS1 : ∀ x ∈ S, H1 x = none := fun x hx => E12.free _ (nS x hx)
        have td' := td.snoc E1 E13 ow nS1 ndS
        refine ⟨B, _, _, rfl, rfl, E3.lst hq2, szL' (by rw [List.length_map, td.len]; omega), _, _, us ++ [v], os ++ [o], Ss ++ [S], rfl, (E2.trans E3).new nB, ?_, fun o' ho' => ?_, ?_⟩
        · rw [take_succ_at htx, eos, List.map_append]
          rfl
        · rcases List.mem_append.mp ho' with ho' | ho'
          · exact ros o' ho'
          · rw [List.mem_singleton.mp ho']
            exact ro
        · rw [List.map_append] at td'
          exact td'
      · have early : ∀ (j : Nat) p', j < i → rows[j]? = some p' → ReadR xs p' := fun j p' hj hp' => by
          have h1 : (rows.take i)[j]? = some p' := by rw [List.getElem?_take, if_pos hj]; exact hp'
          rw [eos, List.getElem?_map] at h1
          obtain ⟨o, ho, e⟩ := Option.map_eq_some_iff.mp h1
          exact ⟨o, e.symm, ros o (List.mem_of_getElem? ho)⟩
        have Rn := R i tx htx rd early
        refine .inr ⟨a, xs, tx, rfl, E2.lst ha, g, hl tx (List.mem_of_getElem? htx), E2.t1, fun o e ro => absurd ⟨o, e, ro⟩ rd, fun H3 e E3 ne he => ?_⟩
        have E03 := E2.trans E3
        exact ⟨true, xT, fun _ a' na' => ⟨_, rfl, by show 1 ≤ 1000; decide, text_out (n := i) (by omega) E03.t1 (Rn.ext E03)⟩, fun z => Bool.noConfusion z⟩
    · obtain ⟨y3, y4, us, os, Ss, rfl, E1, eos, ros, td⟩ := hp
      rw [List.length_map, List.take_length] at eos
      exact ⟨_, rfl, q os eos ros H1 B us Ss E1 td⟩
end
/-- the signs of an offer's text -/
theorem num_signs (n : Nat) : Signs (numS n) := fun c hc => by
  rw [tl_numS] at hc
  have : ¬ (c < 48 ∨ 57 < c) := fun z => TL.numL_free z hc
  omega
theorem Signs.app {x y : Str} (h : Signs x) (k : Signs y) : Signs (x ++ y) := fun c hc => by
  rw [TL.tl_append] at hc
  exact (List.mem_append.mp hc).elim (h c) (k c)
theorem show_ok {xs : List Str} (g : GoodN xs) (c : List Int) : Signs (showM xs c) := fun d hd => by
  have := show_signs g d hd
  omega
theorem word_signs : Signs (" for " : Str) ∧ Signs (": " : Str) ∧ Signs ("many " : Str) ∧ Signs ("with " : Str) ∧ Signs (", " : Str) := by
  unfold Signs
  decide +kernel
theorem sold_signs {xs : List Str} (g : GoodN xs) (c : List Int) (p : Int) : Signs (soldS xs c p) := ((show_ok g c).app word_signs.1).app (num_signs _)
theorem tiers_signs : ∀ ts : List (Int × Int), Signs (tiersS ts)
  | [] => fun c hc => by cases hc
  | [t] => (((num_signs _).app word_signs.1).app (num_signs _) : Signs (tierS t))
  | t :: u :: r => by
    have h : Signs (tierS t ++ (", " : Str) ++ tiersS (u :: r)) := ((((num_signs _).app word_signs.1).app (num_signs _) : Signs (tierS t)).app word_signs.2.2.2.2).app (tiers_signs (u :: r))
    exact h
theorem offer_signs {xs : List Str} (g : GoodN xs) : ∀ o : Ofr, Signs (offerS xs o)
  | .pack c p => sold_signs g c p
  | .many c ts => word_signs.2.2.1.app (((show_ok g c).app word_signs.2.1).app (tiers_signs ts))
  | .add c p k => word_signs.2.2.2.1.app (((num_signs _).app word_signs.2.1).app (sold_signs g c p))
theorem offers_signs {xs : List Str} (g : GoodN xs) (os : List Ofr) : ∀ x ∈ os.map (offerS xs), Signs x := fun x hx => by
  obtain ⟨o, _, rfl⟩ := List.mem_map.mp hx
  exact offer_signs g o
/-! ### text[::-1] -/
def tRevS (te : TE) : TE := fun σ H Q => te σ H fun x H1 => ∃ z : Str, x = .str z ∧ z.length ≤ sizeLine ∧ ∀ z' : Str, z'.length ≤ z.length → (∀ c ∈ TL.tl z', c ∈ TL.tl z) → Q (.str z') H1
section
variable {X : Cx}
theorem pe_revS {e : Expr} {te : TE} {k : Nat} {p1 p2 p3 pos : Pos} (he : PE X e te) : PE X (.Subscript e (.Slice none none (some (.UnaryOp .USub (.Constant (.int 1) k p1) p2)) p3) pos) (tRevS te) := by
  refine ⟨fun pins s σ H Q I h => ?_⟩
  refine Subscript_ (thn (he.run pins s σ H _ I h) fun v s1 ⟨x, H1, I1, r1, q1⟩ => ?_)
  obtain ⟨z, rfl, hz, q⟩ := q1
  obtain ⟨t, rfl⟩ := r1
  have hst : PO X (some (.UnaryOp .USub (.Constant (.int 1) k p1) p2)) (tPart (tUn (rU fun i => .int (-i)) (tC (.int 1)))) := po_some (pe_un un_neg pe_int)
  refine wpAny_Slice (thn (po_none.run pins s1 σ H1 (fun o H2 => o = none ∧ H2 = H1) I1 ⟨rfl, rfl⟩) fun vl s2 ⟨l, H2, I2, pl, el, e2⟩ => ?_)
  subst el e2
  refine thn (po_none.run pins s2 σ H2 (fun o H3 => o = none ∧ H3 = H2) I2 ⟨rfl, rfl⟩) fun vu s3 ⟨u, H3, I3, pu, eu, e3⟩ => ?_
  subst eu e3
  refine thn (hst.run pins s3 σ H3 (fun o H4 => o = some (-1) ∧ H4 = H3) I3 ⟨1, rfl, -1, rfl, rfl, rfl⟩) fun vs s4 ⟨o, H4, I4, ps, eo, e4⟩ => ?_
  subst eo e4
  have I5 : Inv X pins σ H4 { s4 with heap := s4.heap.push { cls := .type "slice", data := .fields #[vl, vu, vs] } } := I4.kept (t' := s4.toks) fun b ob q => Heap.get?_push_of_some _ q
  obtain ⟨os, hos, hcs, hds⟩ := Heap.IsSliceOf.new s4.heap vl vu vs
  obtain ⟨l, rfl, el⟩ := IsPart.raw pl
  obtain ⟨u, rfl, eu⟩ := IsPart.raw pu
  obtain ⟨st, rfl, es⟩ := IsPart.raw ps
  refine tail_any (ops := [.str z t, .ref s4.heap.objs.size]) (typeIs_str _ z t) PySem.F.slot_str_getitem.lookup ?_ (by with_unfolding_all rfl)
  refine wpAny_getItem_str_slice (l := l) (u := u) (st := st) ⟨os, hos, hcs, hds⟩ (by rw [es]; rfl) ?_
  unfold sliceMade slicePicked
  rw [es, el, eu]
  rw [if_neg (by show ¬ ((false && _) = true); rw [Bool.false_and]; exact Bool.false_ne_true)]
  have lp : (Builtin.Str.strSliceIndices none none (((some (-1) : Option Int)).getD 1) z.length).length = z.length := by
    show (Builtin.Str.strSliceIndices none none (-1) z.length).length = z.length
    rw [PyProof.Rows.picked_rev, List.length_map, List.length_range]
  have ll : ∀ f : Nat → Option Nat, (((Builtin.Str.strSliceIndices none none (((some (-1) : Option Int)).getD 1) z.length).filterMap f).toArray).size ≤ z.length := fun f => by
    rw [List.size_toArray]
    exact Nat.le_trans (List.length_filterMap_le _ _) (Nat.le_of_eq lp)
  refine ⟨Nat.le_trans (ll _) hz, .str _, H4, I5.tok _, ⟨_, rfl⟩, q _ (ll _) fun c hc => ?_⟩
  have hc : c ∈ (Builtin.Str.strSliceIndices none none (((some (-1) : Option Int)).getD 1) z.length).filterMap (z.cps[·]?) := hc
  obtain ⟨i, _, hi⟩ := List.mem_filterMap.mp hc
  obtain ⟨h, e⟩ := Array.getElem?_eq_some_iff.mp hi
  show c ∈ z.cps.toList
  rw [← e]
  exact Array.mem_toList_iff.mpr (Array.getElem_mem h)
end
/-! ### _law_sign_bent, _law_word_bent, _law_text_bent: a text, bent; only its length is told -/
abbrev s_law_sign_bent : Stmt := topS 45
abbrev N_law_sign_bent : List Str := ["_law_text", "_law_draws_here", "_law_number", "_law_at", "_law_sign", "_law_way"]
theorem sc_law_sign_bent : FnScope N_law_sign_bent ["_law_text", "_law_draws_here"] (defScope s_law_sign_bent) := ⟨rfl, rfl, rfl, by decide +kernel, rfl, by decide +kernel, by decide +kernel⟩

abbrev s_law_word_bent : Stmt := topS 46
abbrev N_law_word_bent : List Str := ["_law_text", "_law_names_here", "_law_draws_here", "_law_by", "_law_words", "_law_number", "_law_at", "_law_odd", "_law_way", "_law_word"]
theorem sc_law_word_bent : FnScope N_law_word_bent ["_law_text", "_law_names_here", "_law_draws_here"] (defScope s_law_word_bent) := ⟨rfl, rfl, rfl, by decide +kernel, rfl, by decide +kernel, by decide +kernel⟩

abbrev s_law_text_bent : Stmt := topS 47
abbrev N_law_text_bent : List Str := ["_law_text", "_law_names_here", "_law_draws_here"]
theorem sc_law_text_bent : FnScope N_law_text_bent ["_law_text", "_law_names_here", "_law_draws_here"] (defScope s_law_text_bent) := ⟨rfl, rfl, rfl, by decide +kernel, rfl, by decide +kernel, by decide +kernel⟩

theorem join_sum (y : Str) : ∀ ps : List Str, (Str.join y ps).length ≤ (ps.map (·.length)).sum + ps.length * y.length
  | [] => Nat.zero_le _
  | [p] => by
    show p.length ≤ p.length + 0 + 1 * y.length
    omega
  | p :: q :: r => by
    have ih := join_sum y (q :: r)
    have e : (Str.join y (p :: q :: r)).length = p.length + y.length + (Str.join y (q :: r)).length := by
      show (p ++ y ++ Str.join y (q :: r)).length = _
      rw [str_len_app, str_len_app]
    rw [e, List.map_cons, List.sum_cons, List.length_cons]
    rw [List.length_cons] at ih ⊢
    have h1 : (r.length + 1 + 1) * y.length = (r.length + 1) * y.length + y.length := by rw [Nat.add_mul, Nat.one_mul]
    omega
theorem sum_join (y : Str) : ∀ ps : List Str, (ps.map (·.length)).sum ≤ (Str.join y ps).length
  | [] => Nat.zero_le _
  | [p] => Nat.le_refl _
  | p :: q :: r => by
    have ih := sum_join y (q :: r)
    have e : (Str.join y (p :: q :: r)).length = p.length + y.length + (Str.join y (q :: r)).length := by
      show (p ++ y ++ Str.join y (q :: r)).length = _
      rw [str_len_app, str_len_app]
    rw [e, List.map_cons, List.sum_cons]
    omega
def bys : List Str := [" ", ", ", ": ", " for "]
theorem bys_len {y : Str} (h : y ∈ bys) : y.length ≤ 5 ∧ y.length ≠ 0 := by
  have all : ∀ y ∈ bys, y.length ≤ 5 ∧ y.length ≠ 0 := by decide +kernel
  exact all y h
theorem bys_some {y : Str} (h : y ∈ bys) (a : Str) : Txt.split a y ≠ [] := fun z => by
  have j := StrLaws.join_split a y
  rw [z] at j
  have e : a = Str.empty := j.symm
  subst e
  have all : ∀ y ∈ bys, Txt.split Str.empty y ≠ [] := by decide +kernel
  exact all y h z
theorem cutS_signs {z : Str} (h : Signs z) (lo hi : Option Int) : Signs (cutS z lo hi) := fun c hc => by
  have hc : c ∈ (z.cps.toList.drop (HT.sIx z.length 0 lo)).take (HT.sIx z.length z.length hi - HT.sIx z.length 0 lo) := hc
  exact h c (List.mem_of_mem_drop (List.mem_of_mem_take hc))
theorem join_signs {y : Str} (hy : Signs y) : ∀ {ps : List Str}, (∀ p ∈ ps, Signs p) → Signs (Str.join y ps)
  | [], _ => fun c hc => by cases hc
  | [p], h => h p List.mem_cons_self
  | p :: q :: r, h => by
    have ih := join_signs hy (ps := q :: r) fun z hz => h z (List.mem_cons_of_mem _ hz)
    exact ((h p List.mem_cons_self).app hy).app ih
theorem join_mem {y : Str} {c : Nat} : ∀ {ps : List Str} {p : Str}, p ∈ ps → c ∈ TL.tl p → c ∈ TL.tl (Str.join y ps)
  | [p], q, h, hc => by
    rw [List.mem_singleton.mp h] at hc
    exact hc
  | p :: q :: r, z, h, hc => by
    show c ∈ TL.tl (p ++ y ++ Str.join y (q :: r))
    rw [TL.tl_append, TL.tl_append]
    rcases List.mem_cons.mp h with rfl | h
    · exact List.mem_append.mpr (.inl (List.mem_append.mpr (.inl hc)))
    · exact List.mem_append.mpr (.inr (join_mem h hc))
theorem split_signs {a y p : Str} (h : Signs a) (hp : p ∈ Txt.split a y) : Signs p := fun c hc => h c (by
  have := join_mem (y := y) hp hc
  rw [StrLaws.join_split] at this
  exact this)
theorem bys_signs {y : Str} (h : y ∈ bys) : Signs y := by
  have all : ∀ y ∈ bys, ∀ c ∈ TL.tl y, c < 256 := by decide +kernel
  exact all y h
def sp_sign_bent : Sp := fun vs H Q _ => ∃ (tx : Str) (d : Addr) (ns : List Int), vs = [.str tx, .ref d] ∧ tx.length ≤ 80000 ∧ Signs tx ∧ H d = some (LI ns) ∧ ∀ H' tx' ns', SameBut d H H' → H' d = some (LI ns') → tx'.length ≤ 7 * tx.length + 23 → Signs tx' → Q (.str tx') H'
def sp_text_bent : Sp := fun vs H Q _ => ∃ (tx : Str) (a d : Addr) (xs : List Str) (ns : List Int), vs = [.str tx, .ref a, .ref d] ∧ tx.length ≤ 80000 ∧ a ≠ d ∧ H a = some (LS xs) ∧ GoodN xs ∧ Signs tx ∧ H d = some (LI ns) ∧ ∀ H' tx' ns', SameBut d H H' → H' d = some (LI ns') → tx'.length ≤ 7 * tx.length + 23 → Signs tx' → Q (.str tx') H'
section
variable {P : Program} {w : World} {K : PySem.W.Frag} {mg : Str → Option Value} {base : Heap}
theorem ok_sign_bent {f f1 : Addr} {fd fd1 : FuncData} {k : Nat} (M : Names mg) (D : Def K mg "_law_sign_bent" s_law_sign_bent ["_law_text", "_law_draws_here"] f fd) (D_law_pop : Def K mg "_law_pop" s_law_pop ["_law_draws_here"] f1 fd1) (G_law_pop : FnOk P w K mg base CX0 k f1 fd1 ["_law_draws_here"] sp_pop) : FnOk P w K mg base CX0 (k + 1) f fd ["_law_text", "_law_draws_here"] sp_sign_bent := by
  refine D.F.ok sc_law_sign_bent (fun vs H Q E h => ?_) (fun cdv A outer s H vs Q E hr h => ?_)
  · obtain ⟨tx, d, ns, rfl, _⟩ := h
    rfl
  · obtain ⟨tx, d, ns, rfl, al, sgx, hd, q⟩ := h
    refine ⟨_, (pss_cons (ps_set (i := 2) sc_law_sign_bent.nd rfl (Or.inl rfl) (pe_call G_law_pop hr (by rfl) D_law_pop.g D_law_pop.F.kp D_law_pop.b .nil pass0 (pa_cons (pv 1) pa_nil)))
  (pss_cons (ps_set (i := 3) sc_law_sign_bent.nd rfl (Or.inl rfl) (pe_op op_mod (pv 2) (pe_op op_add (pe_callB call_len_str (by rfl) M.len (by decide +kernel) (pa_cons (pv 0) pa_nil)) pe_int)))
  (pss_cons (ps_set (i := 4) sc_law_sign_bent.nd rfl (Or.inl rfl) (pe_ix ix_str pe_str (pe_op op_mod (pe_call G_law_pop hr (by rfl) D_law_pop.g D_law_pop.F.kp D_law_pop.b .nil pass0 (pa_cons (pv 1) pa_nil)) pe_int) (fun _ _ => rfl)))
  (pss_cons (ps_set (i := 5) sc_law_sign_bent.nd rfl (Or.inl rfl) (pe_op op_mod (pe_op op_fdiv (pv 2) pe_int) pe_int))
  (pss_cons (ps_if (pt_cmpR op_eq (pv 5) pe_int (nomark _))
   (pss_one (ps_ret (pe_op op_add_str (pe_op op_add_str (pe_slice sl_str (pv 0) po_none (po_some (pv 3))) (pv 4)) (pe_slice sl_str (pv 0) (po_some (pv 3)) po_none))))
   pss_nil)
  (pss_cons (ps_if (pt_cmpR op_eq (pv 5) pe_int (nomark _))
   (pss_one (ps_ret (pe_op op_add_str (pe_slice sl_str (pv 0) po_none (po_some (pv 3))) (pe_slice sl_str (pv 0) (po_some (pe_op op_add (pv 3) pe_int)) po_none))))
   pss_nil)
  (pss_cons (ps_if (pt_cmpR op_eq (pv 5) pe_int (nomark _))
   (pss_one (ps_ret (pe_op op_add_str (pe_op op_add_str (pe_slice sl_str (pv 0) po_none (po_some (pv 3))) (pv 4)) (pe_slice sl_str (pv 0) (po_some (pe_op op_add (pv 3) pe_int)) po_none))))
   pss_nil)
  (pss_one (ps_ret (pe_op op_add_str (pe_op op_add_str (pe_slice sl_str (pv 0) po_none (po_some (pv 3))) (pe_revS (pe_slice sl_str (pv 0) (po_some (pv 3)) (po_some (pe_op op_add (pv 3) pe_int))))) (pe_slice sl_str (pv 0) (po_some (pe_op op_add (pv 3) pe_int)) po_none))))))))))), ?_⟩
    refine ⟨_, rfl, d, ns, rfl, hd, fun H1 s1 hd1 => ?_⟩
    generalize ns.headD 0 = n0
    generalize ns.tail = ns1 at hd1
    refine ⟨_, rfl, _, rfl, tx, rfl, szL (by omega), _, _, rfl, rfl, _, _, rfl, rfl, (by show (0 : Int) < _; omega), ?_⟩
    refine ⟨_, rfl, d, ns1, rfl, hd1, fun H2 s2 hd2 => ?_⟩
    have s12 := s1.trans s2
    obtain ⟨j, hj, ej⟩ := mod_at (i := ns1.headD 0) (n := 32) (by decide)
    refine ⟨_, _, rfl, rfl, (by show (0 : Int) < _; decide), _, _, _, rfl, rfl, by decide +kernel, (by rw [show ns1.headD 0 % 32 = (j : Int) from ej]; exact atI_nat (List.getElem?_eq_getElem (Nat.lt_of_lt_of_le hj (by decide +kernel)))), ?_⟩
    generalize hsg : (⟨#[_]⟩ : Str) = sg
    have lsg : sg.length = 1 := by rw [← hsg]; rfl
    have ssg : Signs sg := fun c hc => by
      rw [← hsg] at hc
      have e := List.mem_singleton.mp (show c ∈ [_] from hc)
      have all : ∀ c ∈ ("0123456789 ,:formanywithx-+._/`{" : Str).cps.toList, c < 256 := by decide +kernel
      rw [e]
      exact all _ (List.getElem_mem _)
    clear hsg
    have cl : ∀ lo hi : Option Int, (cutS tx lo hi).length ≤ tx.length := fun lo hi => cutS_length tx lo hi
    have fin : ∀ x : Str, x.length ≤ 3 * tx.length + 1 → Signs x → Q (.str x) H2 := fun x hx hs => q H2 x _ s12 hd2 (by omega) hs
    have cs : ∀ lo hi : Option Int, Signs (cutS tx lo hi) := fun lo hi => cutS_signs sgx lo hi
    refine ⟨_, rfl, _, _, rfl, rfl, ⟨by decide, by decide⟩, _, _, rfl, rfl, (by show (0 : Int) < _; decide), ?_⟩
    refine ⟨_, rfl, rfl, ?_⟩
    have ap : ∀ {x y : Str} {a b : Nat}, x.length ≤ a → y.length ≤ b → (x ++ y).length ≤ a + b := fun hx hy => by rw [str_len_app]; omega
    have sz2 : ∀ {x y : Str} {a b : Nat}, x.length ≤ a → y.length ≤ b → a + b ≤ 1000000 → x.length + y.length ≤ sizeLine := fun hx hy h => Nat.le_trans (Nat.le_trans (Nat.add_le_add hx hy) h) (by decide)
    have ls := Nat.le_of_eq lsg
    have alS : tx.length ≤ sizeLine := szL (by omega)
    by_cases w0 : n0 / 1000 % 4 = 0
    · refine ⟨true, congrArg V.bl (decide_eq_true (congrArg V.int w0)), ?_⟩
      refine ⟨_, rfl, _, rfl, _, rfl, tx, rfl, alS, _, rfl, _, _, rfl, rfl, sz2 (cl _ _) ls (by omega), ?_⟩
      refine ⟨_, rfl, _, rfl, _, rfl, tx, rfl, alS, _, _, rfl, rfl, sz2 (ap (cl _ _) ls) (cl _ _) (by omega), ?_⟩
      exact fin _ (Nat.le_trans (ap (ap (cl _ _) ls) (cl _ _)) (by omega)) (((cs _ _).app ssg).app (cs _ _))
    refine ⟨false, congrArg V.bl (decide_eq_false (fun z => w0 (V.int.inj z))), ?_⟩
    refine ⟨_, rfl, rfl, ?_⟩
    by_cases w1 : n0 / 1000 % 4 = 1
    · refine ⟨true, congrArg V.bl (decide_eq_true (congrArg V.int w1)), ?_⟩
      refine ⟨_, rfl, _, rfl, _, rfl, tx, rfl, alS, ?_⟩
      refine ⟨_, rfl, _, rfl, _, _, rfl, rfl, _, rfl, tx, rfl, alS, _, _, rfl, rfl, sz2 (cl _ _) (cl _ _) (by omega), ?_⟩
      exact fin _ (Nat.le_trans (ap (cl _ _) (cl _ _)) (by omega)) ((cs _ _).app (cs _ _))
    refine ⟨false, congrArg V.bl (decide_eq_false (fun z => w1 (V.int.inj z))), ?_⟩
    refine ⟨_, rfl, rfl, ?_⟩
    by_cases w2 : n0 / 1000 % 4 = 2
    · refine ⟨true, congrArg V.bl (decide_eq_true (congrArg V.int w2)), ?_⟩
      refine ⟨_, rfl, _, rfl, _, rfl, tx, rfl, alS, _, rfl, _, _, rfl, rfl, sz2 (cl _ _) ls (by omega), ?_⟩
      refine ⟨_, rfl, _, rfl, _, _, rfl, rfl, _, rfl, tx, rfl, alS, _, _, rfl, rfl, sz2 (ap (cl _ _) ls) (cl _ _) (by omega), ?_⟩
      exact fin _ (Nat.le_trans (ap (ap (cl _ _) ls) (cl _ _)) (by omega)) (((cs _ _).app ssg).app (cs _ _))
    refine ⟨false, congrArg V.bl (decide_eq_false (fun z => w2 (V.int.inj z))), ?_⟩
    refine ⟨_, rfl, _, rfl, _, rfl, tx, rfl, alS, ?_⟩
    refine ⟨_, rfl, _, rfl, _, rfl, _, rfl, _, _, rfl, rfl, _, rfl, tx, rfl, alS, _, rfl, Nat.le_trans (cl _ _) alS, fun z' hz' mz => ?_⟩
    have sz' : Signs z' := fun c hc => cs _ _ c (mz c hc)
    have lz : z'.length ≤ tx.length := Nat.le_trans hz' (cl _ _)
    refine ⟨_, _, rfl, rfl, sz2 (cl _ _) lz (by omega), ?_⟩
    refine ⟨_, rfl, _, rfl, _, _, rfl, rfl, _, rfl, tx, rfl, alS, _, _, rfl, rfl, sz2 (ap (cl _ _) lz) (cl _ _) (by omega), ?_⟩
    exact fin _ (Nat.le_trans (ap (ap (cl _ _) lz) (cl _ _)) (by omega)) (((cs _ _).app sz').app (cs _ _))
theorem cutL_to (l : List Str) (k : Nat) : cutV (l.map V.str) none (some (k : Int)) = (l.take k).map V.str := by
  unfold cutV
  rw [HT.sIx_nat, HT.sIx_none, List.drop_zero, Nat.sub_zero, List.map_take]
  exact (List.take_eq_take_iff).mpr (by omega)
theorem cutL_from (l : List Str) (k : Nat) (h : k ≤ l.length) : cutV (l.map V.str) (some (k : Int)) none = (l.drop k).map V.str := by
  unfold cutV
  rw [HT.sIx_nat, HT.sIx_none, List.length_map, Nat.min_eq_left h, ← List.map_drop, ← List.map_take]
  rw [List.take_of_length_le (by rw [List.length_drop]; exact Nat.le_refl _)]
def lensum (ps : List Str) : Nat := (ps.map (·.length)).sum
theorem lensum_app (a b : List Str) : lensum (a ++ b) = lensum a + lensum b := by
  unfold lensum
  rw [List.map_append, List.sum_append]
theorem lensum_cut (ws : List Str) (i : Nat) : lensum (ws.take i) + lensum (ws.drop i) = lensum ws := by
  rw [← lensum_app, List.take_append_drop]
theorem lensum_drop (ws : List Str) {i : Nat} (h : i < ws.length) : lensum (ws.drop i) = (ws[i]).length + lensum (ws.drop (i + 1)) := by
  rw [List.drop_eq_getElem_cons h]
  rfl
theorem bent_ok {tl : Nat} {y : Str} (hy : y.length ≤ 5) (ht : tl ≤ 80000) {ps : List Str} (h1 : lensum ps ≤ 2 * tl + 13) (h2 : ps.length ≤ tl + 2) : (ps.map (·.length)).sum + ps.length * y.length ≤ 16777216 ∧ (Txt.join y ps).length ≤ 7 * tl + 23 := by
  have h3 : ps.length * y.length ≤ (tl + 2) * 5 := Nat.mul_le_mul h2 hy
  have h4 := join_sum y ps
  rw [TL.join_eq]
  unfold lensum at h1
  constructor <;> omega
def odd3 : List Str := ["2 egg", "1_0", "+5"]
def oddL : List Str := ["0", "01", "10", "9", "1", "nothing", "many", "with", "for", "", "100", "1234567890123"]
theorem ok_word_bent {f f1 : Addr} {fd fd1 : FuncData} {k : Nat} (M : Names mg) (D : Def K mg "_law_word_bent" s_law_word_bent ["_law_text", "_law_names_here", "_law_draws_here"] f fd) (D_law_pop : Def K mg "_law_pop" s_law_pop ["_law_draws_here"] f1 fd1) (G_law_pop : FnOk P w K mg base CX0 k f1 fd1 ["_law_draws_here"] sp_pop) : FnOk P w K mg base CX0 (k + 1) f fd ["_law_text", "_law_names_here", "_law_draws_here"] sp_text_bent := by
  refine D.F.ok sc_law_word_bent (fun vs H Q E h => ?_) (fun cdv A outer s H vs Q E hr h => ?_)
  · obtain ⟨tx, a, d, xs, ns, rfl, _⟩ := h
    rfl
  · obtain ⟨tx, a, d, xs, ns, rfl, al, nad, ha, g, sgx, hd, q⟩ := h
    refine ⟨_, (pss_cons (ps_set (i := 3) sc_law_word_bent.nd rfl (Or.inl rfl) (pe_ix ix_list (pe_lst (pa_cons pe_str (pa_cons pe_str (pa_cons pe_str (pa_cons pe_str pa_nil))))) (pe_op op_mod (pe_call G_law_pop hr (by rfl) D_law_pop.g D_law_pop.F.kp D_law_pop.b .nil pass0 (pa_cons (pv 2) pa_nil)) pe_int) (fun _ _ => rfl)))
  (pss_cons (ps_set (i := 4) sc_law_word_bent.nd rfl (Or.inl rfl) (pe_split (pv 0) (pv 3)))
  (pss_cons (ps_set (i := 5) sc_law_word_bent.nd rfl (Or.inl rfl) (pe_call G_law_pop hr (by rfl) D_law_pop.g D_law_pop.F.kp D_law_pop.b .nil pass0 (pa_cons (pv 2) pa_nil)))
  (pss_cons (ps_set (i := 6) sc_law_word_bent.nd rfl (Or.inl rfl) (pe_op op_mod (pv 5) (pe_callB call_len_seq (by rfl) M.len (by decide +kernel) (pa_cons (pv 4) pa_nil))))
  (pss_cons (ps_set (i := 7) sc_law_word_bent.nd rfl (Or.inl rfl) (pe_lst (pa_cons pe_str (pa_cons pe_str (pa_cons pe_str (pa_cons pe_str (pa_cons pe_str (pa_cons pe_str (pa_cons pe_str (pa_cons pe_str (pa_cons pe_str (pa_cons pe_str (pa_cons pe_str (pa_cons pe_str pa_nil))))))))))))))
  (pss_cons (ps_set (i := 7) sc_law_word_bent.nd rfl (Or.inl rfl) (pe_op op_cat (pe_op op_cat (pv 7) (pe_lst (pa_cons pe_str (pa_cons pe_str (pa_cons pe_str pa_nil))))) (pv 1)))
  (pss_cons (ps_set (i := 8) sc_law_word_bent.nd rfl (Or.inl rfl) (pe_op op_mod (pe_op op_fdiv (pv 5) pe_int) pe_int))
  (pss_cons (ps_if (pt_cmpR op_eq (pv 8) pe_int (nomark _))
   (pss_one (ps_ret (pe_join (pv 3) (pe_op op_cat (pe_slice sl_list (pv 4) po_none (po_some (pv 6))) (pe_slice sl_list (pv 4) (po_some (pe_op op_add (pv 6) pe_int)) po_none)))))
   pss_nil)
  (pss_cons (ps_if (pt_cmpR op_eq (pv 8) pe_int (nomark _))
   (pss_one (ps_ret (pe_join (pv 3) (pe_op op_cat (pe_op op_cat (pe_slice sl_list (pv 4) po_none (po_some (pv 6))) (pe_lst (pa_cons (pe_ix ix_list (pv 4) (pv 6) (fun _ _ => rfl)) pa_nil))) (pe_slice sl_list (pv 4) (po_some (pv 6)) po_none)))))
   pss_nil)
  (pss_cons (ps_if (pt_cmpR op_eq (pv 8) pe_int (nomark _))
   (pss_one (ps_ret (pe_join (pv 3) (pe_revL (pv 4)))))
   pss_nil)
  (pss_cons (ps_set (i := 9) sc_law_word_bent.nd rfl (Or.inl rfl) (pe_ix ix_list (pv 7) (pe_op op_mod (pe_op op_fdiv (pv 5) pe_int) (pe_callB call_len_seq (by rfl) M.len (by decide +kernel) (pa_cons (pv 7) pa_nil))) (fun _ _ => rfl)))
  (pss_one (ps_ret (pe_join (pv 3) (pe_op op_cat (pe_op op_cat (pe_slice sl_list (pv 4) po_none (po_some (pv 6))) (pe_lst (pa_cons (pv 9) pa_nil))) (pe_slice sl_list (pv 4) (po_some (pe_op op_add (pv 6) pe_int)) po_none)))))))))))))))), ?_⟩
    refine ⟨by show 4 ≤ sizeLine; decide, fun L0 nL0 => ?_⟩
    have s0 := same_upd (o := .lst [.str " ", .str ", ", .str ": ", .str " for "]) nL0
    have hL0 : upd H L0 (.lst [.str " ", .str ", ", .str ": ", .str " for "]) L0 = some (LS bys) := upd_same
    have hd0 := s0 _ _ hd
    have ha0 := s0 _ _ ha
    have neL : L0 ≠ d := (ne_of_none hd nL0).symm
    change ∃ x, _
    have B0 : SameBut d H (upd H L0 (.lst [.str " ", .str ", ", .str ": ", .str " for "])) := .of s0
    generalize upd H L0 (.lst [.str " ", .str ", ", .str ": ", .str " for "]) = H0 at s0 hL0 hd0 ha0 B0 ⊢
    refine ⟨_, rfl, d, ns, rfl, hd0, fun H1 s1 hd1 => ?_⟩
    have ha1 := s1 _ _ nad ha0
    have B1 := B0.trans s1
    obtain ⟨j, hj, ej⟩ := mod_at (i := ns.headD 0) (n := 4) (by decide)
    generalize ns.tail = ns1 at hd1
    obtain ⟨y, hy⟩ : ∃ y, bys[j]? = some y := ⟨_, List.getElem?_eq_getElem (show j < 4 from hj)⟩
    have my := List.mem_of_getElem? hy
    obtain ⟨y5, y0⟩ := bys_len my
    refine ⟨_, _, rfl, rfl, (by show (0 : Int) < _; decide), L0, _, _, _, rfl, rfl, SqL.of (s1 _ _ neL hL0), at_of ej (get_strs hy), ?_⟩
    refine ⟨_, rfl, ⟨_, rfl⟩, _, rfl, _, _, rfl, rfl, beq_eq_false_iff_ne.mpr y0, szL (by omega), fun L nL => ?_⟩
    have wne := bys_some my tx
    have sumw := sum_join y (Txt.split tx y)
    rw [StrLaws.join_split] at sumw
    have cnt := split_many (a := tx) (y := y) y0
    have wsg : ∀ p ∈ Txt.split tx y, Signs p := fun p hp => split_signs sgx hp
    have sy := bys_signs my
    generalize Txt.split tx y = ws at wne sumw cnt wsg ⊢
    have hL : upd H1 L (.lst (ws.map V.str)) L = some (LS ws) := upd_same
    have s2 := same_upd (o := .lst (ws.map V.str)) nL
    have hd2 := s2 _ _ hd1
    have ha2 := s2 _ _ ha1
    have B2 := B1.trans (.of s2)
    have neLd : L ≠ d := (ne_of_none hd1 nL).symm
    change ∃ x, _
    generalize upd H1 L (.lst (ws.map V.str)) = H2 at s2 hL hd2 ha2 B2 ⊢
    refine ⟨_, rfl, d, ns1, rfl, hd2, fun H3 s3 hd3 => ?_⟩
    have ha3 := s3 _ _ nad ha2
    have hL3 := s3 _ _ neLd hL
    have B3 := B2.trans s3
    generalize ns1.headD 0 = n1
    generalize ns1.tail = ns2 at hd3
    have wpos : 0 < ws.length := List.length_pos_iff.mpr wne
    refine ⟨_, rfl, _, rfl, L, _, rfl, .inl (SqL.of hL3), _, _, rfl, rfl, (by show (0 : Int) < ((ws.map V.str).length : Nat); rw [List.length_map]; omega), ?_⟩
    obtain ⟨i, hi, ei⟩ := mod_at (i := n1) (n := ws.length) wpos
    have ei' : n1 % (((ws.map V.str).length : Nat) : Int) = (i : Int) := by rw [List.length_map]; exact ei
    refine ⟨by show 12 ≤ sizeLine; decide, fun Lo nLo => ?_⟩
    have s4 := same_upd (o := .lst [.str "0", .str "01", .str "10", .str "9", .str "1", .str "nothing", .str "many", .str "with", .str "for", .str "", .str "100", .str "1234567890123"]) nLo
    have hLo : upd H3 Lo (.lst [.str "0", .str "01", .str "10", .str "9", .str "1", .str "nothing", .str "many", .str "with", .str "for", .str "", .str "100", .str "1234567890123"]) Lo = some (LS oddL) := upd_same
    have K4 := (⟨s4 _ _ hd3, s4 _ _ ha3, s4 _ _ hL3, B3.trans (.of s4)⟩ : _ ∧ _ ∧ _ ∧ _)
    generalize upd H3 Lo (.lst [.str "0", .str "01", .str "10", .str "9", .str "1", .str "nothing", .str "many", .str "with", .str "for", .str "", .str "100", .str "1234567890123"]) = H4 at hLo K4 ⊢
    obtain ⟨hd4, ha4, hL4, B4⟩ := K4
    refine ⟨_, rfl, by show 3 ≤ sizeLine; decide, fun L3 nL3 => ?_⟩
    have s5 := same_upd (o := .lst [.str "2 egg", .str "1_0", .str "+5"]) nL3
    have hL35 : upd H4 L3 (.lst [.str "2 egg", .str "1_0", .str "+5"]) L3 = some (LS odd3) := upd_same
    have K5 := (⟨s5 _ _ hd4, s5 _ _ ha4, s5 _ _ hL4, s5 _ _ hLo, B4.trans (.of s5)⟩ : _ ∧ _ ∧ _ ∧ _ ∧ _)
    generalize upd H4 L3 (.lst [.str "2 egg", .str "1_0", .str "+5"]) = H5 at hL35 K5 ⊢
    obtain ⟨hd5, ha5, hL5, hLo5, B5⟩ := K5
    refine ⟨Lo, L3, _, _, rfl, rfl, hLo5, hL35, by show 12 + 3 ≤ sizeLine; decide, fun L6 nL6 => ?_⟩
    rw [← List.map_append]
    have s6 := same_upd (o := .lst ((oddL ++ odd3).map V.str)) nL6
    have hL6 : upd H5 L6 (.lst ((oddL ++ odd3).map V.str)) L6 = some (LS (oddL ++ odd3)) := upd_same
    have K6 := (⟨s6 _ _ hd5, s6 _ _ ha5, s6 _ _ hL5, B5.trans (.of s6)⟩ : _ ∧ _ ∧ _ ∧ _)
    generalize upd H5 L6 (.lst ((oddL ++ odd3).map V.str)) = H6 at hL6 K6 ⊢
    obtain ⟨hd6, ha6, hL6w, B6⟩ := K6
    have few := g.few
    refine ⟨_, rfl, L6, a, _, _, rfl, rfl, hL6, ha6, szL (by rw [List.length_map, List.length_map]; show 15 + xs.length ≤ _; omega), fun L7 nL7 => ?_⟩
    rw [← List.map_append]
    have s7 := same_upd (o := .lst ((oddL ++ odd3 ++ xs).map V.str)) nL7
    have hL7 : upd H6 L7 (.lst ((oddL ++ odd3 ++ xs).map V.str)) L7 = some (LS (oddL ++ odd3 ++ xs)) := upd_same
    have K7 := (⟨s7 _ _ hd6, s7 _ _ hL6w, B6.trans (.of s7)⟩ : _ ∧ _ ∧ _)
    generalize upd H6 L7 (.lst ((oddL ++ odd3 ++ xs).map V.str)) = H7 at hL7 K7 ⊢
    obtain ⟨hd7, hLw, B7⟩ := K7
    clear hL6 ha6 hd6 hL6w B6 hLo5 hL35 hd5 ha5 hL5 B5 hLo hd4 ha4 hL4 B4 hd3 ha3 hL3 B3 hL hd2 ha2 B2 s2 s3 hd1 ha1 B1 s1 hL0 hd0 ha0 B0 s0 s4 s5 s6
    have oddlen : ∀ o ∈ oddL ++ odd3 ++ xs, o.length ≤ 13 := fun o ho => by
      have all : ∀ o ∈ oddL ++ odd3, o.length ≤ 13 := by decide +kernel
      rcases List.mem_append.mp ho with h | h
      · exact all o h
      · have := g.short o h
        omega
    have oddsg : ∀ o ∈ oddL ++ odd3 ++ xs, Signs o := fun o ho => by
      have all : ∀ o ∈ oddL ++ odd3, ∀ c ∈ TL.tl o, c < 256 := by decide +kernel
      rcases List.mem_append.mp ho with h | h
      · exact all o h
      · exact g.signs o h
    have opos : 0 < (oddL ++ odd3 ++ xs).length := by rw [List.length_append]; show 0 < 15 + xs.length; omega
    generalize oddL ++ odd3 ++ xs = od at hL7 oddlen oddsg opos ⊢
    have lw : ws.length ≤ tx.length + 1 := cnt
    have sw : lensum ws ≤ tx.length := sumw
    have sc := lensum_cut ws i
    have sd := lensum_drop ws hi
    have lt : (ws.take i).length ≤ i := by rw [List.length_take]; exact Nat.min_le_left _ _
    have ld : (ws.drop i).length = ws.length - i := List.length_drop
    have ld1 : (ws.drop (i + 1)).length = ws.length - (i + 1) := List.length_drop
    have same7 : ∀ {H' : Hp}, Same H7 H' → SameBut d H H' ∧ H' d = some (LI ns2) := fun s => ⟨B7.trans (.of s), s _ _ hd7⟩
    have ei1 : n1 % (((ws.map V.str).length : Nat) : Int) + 1 = ((i + 1 : Nat) : Int) := by rw [ei']; rfl
    have fin : ∀ {H' : Hp} (ps : List Str), Same H7 H' → lensum ps ≤ 2 * tx.length + 13 → ps.length ≤ tx.length + 2 → (∀ p ∈ ps, Signs p) → Q (.str (Txt.join y ps)) H' := fun ps sm h1 h2 h3 => q _ _ _ (same7 sm).1 (same7 sm).2 (bent_ok y5 al h1 h2).2 (by rw [TL.join_eq]; exact join_signs sy h3)
    have tk : ∀ k, ∀ p ∈ ws.take k, Signs p := fun k p hp => wsg p (List.mem_of_mem_take hp)
    have dr : ∀ k, ∀ p ∈ ws.drop k, Signs p := fun k p hp => wsg p (List.mem_of_mem_drop hp)
    have ap2 : ∀ {a b : List Str}, (∀ p ∈ a, Signs p) → (∀ p ∈ b, Signs p) → ∀ p ∈ a ++ b, Signs p := fun ha hb p hp => (List.mem_append.mp hp).elim (ha p) (hb p)
    refine ⟨_, rfl, _, _, rfl, rfl, ⟨by decide, by decide⟩, _, _, rfl, rfl, (by show (0 : Int) < _; decide), ?_⟩
    refine ⟨_, rfl, rfl, ?_⟩
    by_cases w0 : n1 / 100 % 5 = 0
    · refine ⟨true, congrArg V.bl (decide_eq_true (congrArg V.int w0)), ?_⟩
      refine ⟨_, rfl, ⟨_, rfl⟩, _, rfl, _, rfl, _, rfl, L, _, rfl, SqL.of hLw, fun La nLa => ?_⟩
      rw [ei', cutL_to]
      have u1 := same_upd (o := .lst ((ws.take i).map V.str)) nLa
      have hLa : upd H7 La (.lst ((ws.take i).map V.str)) La = some (LS (ws.take i)) := upd_same
      change ∃ x, _
      generalize upd H7 La (.lst ((ws.take i).map V.str)) = G1 at u1 hLa ⊢
      refine ⟨_, rfl, _, rfl, _, _, rfl, rfl, _, rfl, L, _, rfl, SqL.of (u1 _ _ hLw), fun Lb nLb => ?_⟩
      rw [ei1, cutL_from _ _ (by omega)]
      have u2 := u1.trans (same_upd (o := .lst ((ws.drop (i + 1)).map V.str)) nLb)
      have hLa2 := (same_upd (o := .lst ((ws.drop (i + 1)).map V.str)) nLb) _ _ hLa
      have hLb : upd G1 Lb (.lst ((ws.drop (i + 1)).map V.str)) Lb = some (LS (ws.drop (i + 1))) := upd_same
      change ∃ l, _
      generalize upd G1 Lb (.lst ((ws.drop (i + 1)).map V.str)) = G2 at u2 hLa2 hLb ⊢
      refine ⟨La, Lb, _, _, rfl, rfl, hLa2, hLb, szL (by rw [List.length_map, List.length_map]; omega), fun Lc nLc => ?_⟩
      rw [← List.map_append]
      have ls : lensum (ws.take i ++ ws.drop (i + 1)) ≤ 2 * tx.length + 13 := by rw [lensum_app]; omega
      have ll : (ws.take i ++ ws.drop (i + 1)).length ≤ tx.length + 2 := by rw [List.length_append]; omega
      exact ⟨_, Lc, ws.take i ++ ws.drop (i + 1), rfl, rfl, .inl (SqL.of upd_same), (bent_ok y5 al ls ll).1, fin _ (u2.trans (same_upd nLc)) ls ll (ap2 (tk _) (dr _))⟩
    refine ⟨false, congrArg V.bl (decide_eq_false (fun z => w0 (V.int.inj z))), ?_⟩
    refine ⟨_, rfl, rfl, ?_⟩
    by_cases w1 : n1 / 100 % 5 = 1
    · refine ⟨true, congrArg V.bl (decide_eq_true (congrArg V.int w1)), ?_⟩
      refine ⟨_, rfl, ⟨_, rfl⟩, _, rfl, _, rfl, _, rfl, L, _, rfl, SqL.of hLw, fun La nLa => ?_⟩
      rw [ei', cutL_to]
      have u1 := same_upd (o := .lst ((ws.take i).map V.str)) nLa
      have hLa : upd H7 La (.lst ((ws.take i).map V.str)) La = some (LS (ws.take i)) := upd_same
      change ∃ x, _
      generalize upd H7 La (.lst ((ws.take i).map V.str)) = G1 at u1 hLa ⊢
      have hLw1 := u1 _ _ hLw
      refine ⟨_, rfl, _, rfl, L, _, _, _, rfl, rfl, SqL.of hLw1, at_of ei' (get_strs (List.getElem?_eq_getElem hi)), by show 1 ≤ sizeLine; decide, fun Lm nLm => ?_⟩
      have u1b := u1.trans (same_upd (o := .lst [.str ws[i]]) nLm)
      have hLa1 := (same_upd (o := .lst [.str ws[i]]) nLm) _ _ hLa
      have hLm : upd G1 Lm (.lst [.str ws[i]]) Lm = some (LS [ws[i]]) := upd_same
      generalize upd G1 Lm (.lst [.str ws[i]]) = G1b at u1b hLa1 hLm ⊢
      refine ⟨La, Lm, _, _, rfl, rfl, hLa1, hLm, szL (by rw [List.length_map, List.length_map]; show _ + 1 ≤ _; omega), fun Ln nLn => ?_⟩
      rw [← List.map_append]
      have u1c := u1b.trans (same_upd (o := .lst ((ws.take i ++ [ws[i]]).map V.str)) nLn)
      have hLn : upd G1b Ln (.lst ((ws.take i ++ [ws[i]]).map V.str)) Ln = some (LS (ws.take i ++ [ws[i]])) := upd_same
      change ∃ x, _
      generalize upd G1b Ln (.lst ((ws.take i ++ [ws[i]]).map V.str)) = G1c at u1c hLn ⊢
      refine ⟨_, rfl, _, rfl, _, rfl, L, _, rfl, SqL.of (u1c _ _ hLw), fun Lb nLb => ?_⟩
      rw [ei', cutL_from _ _ (by omega)]
      have u2 := u1c.trans (same_upd (o := .lst ((ws.drop i).map V.str)) nLb)
      have hLn2 := (same_upd (o := .lst ((ws.drop i).map V.str)) nLb) _ _ hLn
      have hLb : upd G1c Lb (.lst ((ws.drop i).map V.str)) Lb = some (LS (ws.drop i)) := upd_same
      change ∃ l, _
      generalize upd G1c Lb (.lst ((ws.drop i).map V.str)) = G2 at u2 hLn2 hLb ⊢
      refine ⟨Ln, Lb, _, _, rfl, rfl, hLn2, hLb, szL (by rw [List.length_map, List.length_map, List.length_append]; show _ + 1 + _ ≤ _; omega), fun Lc nLc => ?_⟩
      rw [← List.map_append]
      have lw1 : lensum [ws[i]] = (ws[i]).length := Nat.add_zero _
      have ls : lensum (ws.take i ++ [ws[i]] ++ ws.drop i) ≤ 2 * tx.length + 13 := by rw [lensum_app, lensum_app, lw1]; omega
      have ll : (ws.take i ++ [ws[i]] ++ ws.drop i).length ≤ tx.length + 2 := by rw [List.length_append, List.length_append]; show _ + 1 + _ ≤ _; omega
      exact ⟨_, Lc, _, rfl, rfl, .inl (SqL.of upd_same), (bent_ok y5 al ls ll).1, fin _ (u2.trans (same_upd nLc)) ls ll (ap2 (ap2 (tk _) (fun p hp => by rw [List.mem_singleton.mp hp]; exact wsg _ (List.getElem_mem hi))) (dr _))⟩
    refine ⟨false, congrArg V.bl (decide_eq_false (fun z => w1 (V.int.inj z))), ?_⟩
    refine ⟨_, rfl, rfl, ?_⟩
    by_cases w2 : n1 / 100 % 5 = 2
    · refine ⟨true, congrArg V.bl (decide_eq_true (congrArg V.int w2)), ?_⟩
      refine ⟨_, rfl, ⟨_, rfl⟩, _, rfl, L, _, rfl, SqL.of hLw, fun La nLa => ?_⟩
      rw [← List.map_reverse]
      have lr : lensum ws.reverse = lensum ws := by
        unfold lensum
        rw [List.map_reverse, List.sum_reverse]
      have ls : lensum ws.reverse ≤ 2 * tx.length + 13 := by rw [lr]; omega
      have ll : ws.reverse.length ≤ tx.length + 2 := by rw [List.length_reverse]; omega
      exact ⟨_, La, ws.reverse, rfl, rfl, .inl (SqL.of upd_same), (bent_ok y5 al ls ll).1, fin _ (same_upd nLa) ls ll (fun p hp => wsg p (List.mem_reverse.mp hp))⟩
    refine ⟨false, congrArg V.bl (decide_eq_false (fun z => w2 (V.int.inj z))), ?_⟩
    obtain ⟨j2, hj2, ej2⟩ := mod_at (i := n1 / 500) (n := od.length) opos
    have ej2' : n1 / 500 % (((od.map V.str).length : Nat) : Int) = (j2 : Int) := by rw [List.length_map]; exact ej2
    have lo := oddlen _ (List.getElem_mem hj2)
    have osg := oddsg _ (List.getElem_mem hj2)
    refine ⟨_, rfl, _, rfl, _, _, rfl, rfl, ⟨by decide, by decide⟩, _, rfl, L7, _, rfl, .inl (SqL.of hL7), _, _, rfl, rfl, (by show (0 : Int) < ((od.map V.str).length : Nat); rw [List.length_map]; omega), L7, _, _, _, rfl, rfl, SqL.of hL7, at_of ej2' (get_strs (List.getElem?_eq_getElem hj2)), ?_⟩
    generalize od[j2] = ow at lo osg ⊢
    refine ⟨_, rfl, ⟨_, rfl⟩, _, rfl, _, rfl, _, rfl, L, _, rfl, SqL.of hLw, fun La nLa => ?_⟩
    rw [ei', cutL_to]
    have u1 := same_upd (o := .lst ((ws.take i).map V.str)) nLa
    have hLa : upd H7 La (.lst ((ws.take i).map V.str)) La = some (LS (ws.take i)) := upd_same
    change ∃ x, _
    generalize upd H7 La (.lst ((ws.take i).map V.str)) = G1 at u1 hLa ⊢
    refine ⟨_, rfl, by show 1 ≤ sizeLine; decide, fun Lm nLm => ?_⟩
    have u1b := u1.trans (same_upd (o := .lst [.str ow]) nLm)
    have hLa1 := (same_upd (o := .lst [.str ow]) nLm) _ _ hLa
    have hLm : upd G1 Lm (.lst [.str ow]) Lm = some (LS [ow]) := upd_same
    generalize upd G1 Lm (.lst [.str ow]) = G1b at u1b hLa1 hLm ⊢
    refine ⟨La, Lm, _, _, rfl, rfl, hLa1, hLm, szL (by rw [List.length_map, List.length_map]; show _ + 1 ≤ _; omega), fun Ln nLn => ?_⟩
    rw [← List.map_append]
    have u1c := u1b.trans (same_upd (o := .lst ((ws.take i ++ [ow]).map V.str)) nLn)
    have hLn : upd G1b Ln (.lst ((ws.take i ++ [ow]).map V.str)) Ln = some (LS (ws.take i ++ [ow])) := upd_same
    change ∃ x, _
    generalize upd G1b Ln (.lst ((ws.take i ++ [ow]).map V.str)) = G1c at u1c hLn ⊢
    refine ⟨_, rfl, _, rfl, _, _, rfl, rfl, _, rfl, L, _, rfl, SqL.of (u1c _ _ hLw), fun Lb nLb => ?_⟩
    rw [ei1, cutL_from _ _ (by omega)]
    have u2 := u1c.trans (same_upd (o := .lst ((ws.drop (i + 1)).map V.str)) nLb)
    have hLn2 := (same_upd (o := .lst ((ws.drop (i + 1)).map V.str)) nLb) _ _ hLn
    have hLb : upd G1c Lb (.lst ((ws.drop (i + 1)).map V.str)) Lb = some (LS (ws.drop (i + 1))) := upd_same
    change ∃ l, _
    generalize upd G1c Lb (.lst ((ws.drop (i + 1)).map V.str)) = G2 at u2 hLn2 hLb ⊢
    refine ⟨Ln, Lb, _, _, rfl, rfl, hLn2, hLb, szL (by rw [List.length_map, List.length_map, List.length_append]; show _ + 1 + _ ≤ _; omega), fun Lc nLc => ?_⟩
    rw [← List.map_append]
    have lw1 : lensum [ow] = ow.length := Nat.add_zero _
    have ls : lensum (ws.take i ++ [ow] ++ ws.drop (i + 1)) ≤ 2 * tx.length + 13 := by rw [lensum_app, lensum_app, lw1]; omega
    have ll : (ws.take i ++ [ow] ++ ws.drop (i + 1)).length ≤ tx.length + 2 := by rw [List.length_append, List.length_append]; show _ + 1 + _ ≤ _; omega
    exact ⟨_, Lc, _, rfl, rfl, .inl (SqL.of upd_same), (bent_ok y5 al ls ll).1, fin _ (u2.trans (same_upd nLc)) ls ll (ap2 (ap2 (tk _) (fun p hp => by rw [List.mem_singleton.mp hp]; exact osg)) (dr _))⟩
theorem ok_text_bent {f f1 f2 f3 : Addr} {fd fd1 fd2 fd3 : FuncData} {k : Nat} (M : Names mg) (D : Def K mg "_law_text_bent" s_law_text_bent ["_law_text", "_law_names_here", "_law_draws_here"] f fd) (D_law_pop : Def K mg "_law_pop" s_law_pop ["_law_draws_here"] f1 fd1) (G_law_pop : FnOk P w K mg base CX0 k f1 fd1 ["_law_draws_here"] sp_pop) (D_law_sign_bent : Def K mg "_law_sign_bent" s_law_sign_bent ["_law_text", "_law_draws_here"] f2 fd2) (G_law_sign_bent : FnOk P w K mg base CX0 k f2 fd2 ["_law_text", "_law_draws_here"] sp_sign_bent) (D_law_word_bent : Def K mg "_law_word_bent" s_law_word_bent ["_law_text", "_law_names_here", "_law_draws_here"] f3 fd3) (G_law_word_bent : FnOk P w K mg base CX0 k f3 fd3 ["_law_text", "_law_names_here", "_law_draws_here"] sp_text_bent) : FnOk P w K mg base CX0 (k + 1) f fd ["_law_text", "_law_names_here", "_law_draws_here"] sp_text_bent := by
  refine D.F.ok sc_law_text_bent (fun vs H Q E h => ?_) (fun cdv A outer s H vs Q E hr h => ?_)
  · obtain ⟨tx, a, d, xs, ns, rfl, _⟩ := h
    rfl
  · obtain ⟨tx, a, d, xs, ns, rfl, al, nad, ha, g, sgx, hd, q⟩ := h
    refine ⟨_, (pss_cons (ps_if (pt_cmpR op_eq (pe_op op_mod (pe_call G_law_pop hr (by rfl) D_law_pop.g D_law_pop.F.kp D_law_pop.b .nil pass0 (pa_cons (pv 2) pa_nil)) pe_int) pe_int (nomark _))
   (pss_one (ps_ret (pe_call G_law_sign_bent hr (by rfl) D_law_sign_bent.g D_law_sign_bent.F.kp D_law_sign_bent.b .nil pass0 (pa_cons (pv 0) (pa_cons (pv 2) pa_nil)))))
   pss_nil)
  (pss_one (ps_ret (pe_call G_law_word_bent hr (by rfl) D_law_word_bent.g D_law_word_bent.F.kp D_law_word_bent.b .nil pass0 (pa_cons (pv 0) (pa_cons (pv 1) (pa_cons (pv 2) pa_nil))))))), ?_⟩
    refine ⟨_, rfl, d, ns, rfl, hd, fun H1 s1 hd1 => ⟨_, _, rfl, rfl, (by show (0 : Int) < _; decide), rfl, ?_⟩⟩
    by_cases w0 : ns.headD 0 % 2 = 0
    · refine ⟨true, congrArg V.bl (decide_eq_true (congrArg V.int w0)), ?_⟩
      exact ⟨_, rfl, _, rfl, tx, d, _, rfl, al, sgx, hd1, fun H2 tx' ns' s2 hd2 l2 sg2 => q H2 tx' ns' (s1.trans s2) hd2 l2 sg2⟩
    · refine ⟨false, congrArg V.bl (decide_eq_false (fun z => w0 (V.int.inj z))), ?_⟩
      exact ⟨_, rfl, _, rfl, _, rfl, tx, a, d, xs, _, rfl, al, nad, s1 _ _ nad ha, g, sgx, hd1, fun H2 tx' ns' s2 hd2 l2 sg2 => q H2 tx' ns' (s1.trans s2) hd2 l2 sg2⟩
end
/-! ### _law_number_of -/
abbrev s_law_number_of : Stmt := topS 39
abbrev N_law_number_of : List Str := ["_law_text", "_law_most", "_law_sign"]
theorem sc_law_number_of : FnScope N_law_number_of ["_law_text", "_law_most"] (defScope s_law_number_of) := ⟨rfl, rfl, rfl, by decide +kernel, rfl, by decide +kernel, by decide +kernel⟩

def digS : Str := "0123456789"
def NumR (k : Nat) (tx : Str) : Prop := ∃ n : Nat, tx = numS n ∧ n < 10 ^ k
def badS (l : List Nat) : List Str := (l.filter fun c => !decide (c ∈ digS.cps.toList)).map fun c => (⟨#[c]⟩ : Str)
theorem eqvN (xs : List Str) : PyData.eqv (.list (xs.map PyData.str)) (.list []) = decide (xs = []) := by
  cases xs with
  | nil => rfl
  | cons a r => rfl
theorem badS_none {l : List Nat} (h : badS l = []) : ∀ c ∈ l, c ∈ digS.cps.toList := fun c hc => by
  unfold badS at h
  have h1 := List.map_eq_nil_iff.mp h
  have h2 := List.filter_eq_nil_iff.mp h1 c hc
  by_cases z : c ∈ digS.cps.toList
  · exact z
  · rw [decide_eq_false z] at h2
    exact absurd rfl h2
theorem badS_num (n : Nat) : badS (numS n).cps.toList = [] := by
  unfold badS
  rw [List.map_eq_nil_iff, List.filter_eq_nil_iff]
  intro c hc
  have hc : c ∈ TL.tl (numS n) := hc
  rw [tl_numS] at hc
  have h1 : 48 ≤ c ∧ c ≤ 57 := by
    have : ¬ (c < 48 ∨ 57 < c) := fun z => TL.numL_free z hc
    omega
  have all : ∀ i, i < 10 → (48 + i) ∈ digS.cps.toList := by decide +kernel
  have h2 := all (c - 48) (by omega)
  rw [show 48 + (c - 48) = c by omega] at h2
  rw [decide_eq_true h2]
  decide
theorem badS_signs {l : List Nat} (h : ∀ c ∈ l, c < 256) : ∀ x ∈ badS l, Signs x := fun x hx c hc => by
  obtain ⟨d, hd, rfl⟩ := List.mem_map.mp hx
  have e := List.mem_singleton.mp (show c ∈ [d] from hc)
  rw [e]
  exact h d (List.mem_filter.mp hd).1
theorem badS_len (l : List Nat) : (badS l).length ≤ l.length := by
  unfold badS
  rw [List.length_map]
  exact List.length_filter_le _ _
theorem badS_snoc (l : List Nat) (c : Nat) : badS (l ++ [c]) = badS l ++ if decide (c ∈ digS.cps.toList) = true then [] else [(⟨#[c]⟩ : Str)] := by
  unfold badS
  rw [List.filter_append, List.map_append]
  by_cases z : c ∈ digS.cps.toList
  · rw [if_pos (decide_eq_true z), List.filter_cons_of_neg (by rw [decide_eq_true z]; decide)]
    rfl
  · rw [if_neg (by rw [decide_eq_false z]; decide), List.filter_cons_of_pos (by rw [decide_eq_false z]; decide)]
    rfl
def sp_number_of : Sp := fun vs H Q _ => ∃ (tx : Str) (k : Nat), vs = [.str tx, .int k] ∧ tx.length ≤ 90000 ∧ Signs tx ∧ 0 < k ∧ k ≤ 12 ∧ (∀ n H', tx = numS n → n < 10 ^ k → Same H H' → Q (.int (n : Nat)) H') ∧ (¬ NumR k tx → ∀ H', Same H H' → Q .non H')
section
variable {P : Program} {w : World} {K : PySem.W.Frag} {mg : Str → Option Value} {base : Heap}
theorem ok_number_of {f : Addr} {fd : FuncData} {k : Nat} (M : Names mg) (D : Def K mg "_law_number_of" s_law_number_of ["_law_text", "_law_most"] f fd) : FnOk P w K mg base CX0 (k + 1) f fd ["_law_text", "_law_most"] sp_number_of := by
  refine D.F.ok sc_law_number_of (fun vs H Q E h => ?_) (fun cdv A outer s H vs Q E hr h => ?_)
  · obtain ⟨tx, k, rfl, _⟩ := h
    rfl
  · obtain ⟨tx, k, rfl, al, sg, hk, hk2, qn, qx⟩ := h
    refine ⟨_, (pss_cons (ps_if (PW.pt (pw_or (pt_cmpR op_eq (pv 0) pe_str (nomark _)) (pw_or (pt_cmpR op_gt (pe_callB call_len_str (by rfl) M.len (by decide +kernel) (pa_cons (pv 0) pa_nil)) (pv 1) (nomark _)) (pw_or1 (pt_cmpR (op_neD hr.units) (pe_lc (own := [("_law_sign", 2)]) (by rfl) sc_law_number_of.nd (pi_str (pv 0)) (blkOk_by (own := [("_law_sign", 2)]) (N := N_law_number_of) (sc := defScope s_law_number_of) (by decide +kernel)) (fun _ _ _ _ _ => (pg_name (i := 2) sc_law_number_of.nd rfl (Or.inl rfl))) (fun _ _ _ _ _ => (pts_one (pt_cmpR op_notIn_str (pv 2) pe_str (by rfl)))) (fun _ _ _ _ _ => (pv 2))) (pe_lst pa_nil) (nomark _))))))
   (pss_one (ps_ret pe_non))
   pss_nil)
  (pss_cons (ps_if (PW.pt (pw_and (pt_cmpR op_eq (pe_ix ix_str (pv 0) pe_int (fun _ _ => rfl)) pe_str (nomark _)) (pw_and1 (pt_cmpR op_ne (pv 0) pe_str (nomark _)))))
   (pss_one (ps_ret pe_non))
   pss_nil)
  (pss_one (ps_ret (pe_callTy call_int_str (by rfl) M.int (by decide +kernel) (pa_cons (pv 0) pa_nil)))))), ?_⟩
    have no : ∀ {H' : Hp}, Same H H' → (∀ n, tx = numS n → n < 10 ^ k → False) → Q .non H' := fun s h => qx (fun ⟨n, e, lt⟩ => h n e lt) _ s
    by_cases w0 : tx = ("" : Str)
    · refine ⟨_, rfl, rfl, true, congrArg V.bl (decide_eq_true (congrArg V.str w0)), ?_⟩
      exact no (fun _ _ e => e) fun n e _ => num_some n (e.symm.trans (w0.trans (by decide +kernel)))
    refine ⟨_, rfl, rfl, false, congrArg V.bl (decide_eq_false fun z => w0 (V.str.inj z)), ?_⟩
    refine ⟨_, rfl, tx, rfl, szL (by omega), _, rfl, _, _, rfl, rfl, ?_⟩
    by_cases w1 : (k : Int) < (tx.length : Nat)
    · refine ⟨true, congrArg V.bl (decide_eq_true w1), ?_⟩
      exact no (fun _ _ e => e) fun n e lt => by
        have l2 := TL.numL_len hk lt
        have ln := numS_len n
        rw [e] at w1
        omega
    refine ⟨false, congrArg V.bl (decide_eq_false w1), ?_⟩
    have lcs : tx.cps.toList.length = tx.length := Array.length_toList
    refine ⟨_, rfl, tx, rfl, fun B nB => lc_it (walk_str (z := tx)) (fun i H' => Same H H' ∧ H' B = some (LS (badS (tx.cps.toList.take i)))) ⟨same_upd nB, upd_same⟩ (fun _ _ _ _ => trivial) (fun i x H1 H2 hi hp hy => ?_) (fun H1 hp => ?_)⟩
    · obtain ⟨s1, hB⟩ := hp
      obtain ⟨rfl, c, hc, rfl⟩ := hy
      have hc' : tx.cps.toList[i]? = some c := by rw [Array.getElem?_toList]; exact hc
      have lb := badS_len (tx.cps.toList.take i)
      rw [List.length_take] at lb
      refine ⟨rfl, _, rfl, _, _, rfl, rfl, _, rfl, ?_⟩
      rw [StrLaws.found_one ("0123456789" : Str) c]
      have sn := badS_snoc (tx.cps.toList.take i) c
      rw [← take_succ_at hc'] at sn
      by_cases z : c ∈ digS.cps.toList
      · have z' : c ∈ ("0123456789" : Str).cps.toList := z
        rw [decide_eq_true z']
        show Same H H2 ∧ H2 B = some (LS (badS (tx.cps.toList.take (i + 1))))
        rw [if_pos (decide_eq_true z), List.append_nil] at sn
        exact ⟨s1, by rw [sn]; exact hB⟩
      · have z' : ¬ c ∈ ("0123456789" : Str).cps.toList := z
        rw [decide_eq_false z']
        change ∃ x, _
        rw [if_neg (by rw [decide_eq_false z]; decide)] at sn
        refine ⟨_, rfl, _, hB, szL' (by rw [List.length_map]; omega), sm_new s1 nB, ?_⟩
        rw [upd_same, sn, ls_app]
    obtain ⟨s1, hB⟩ := hp
    have e1 : tx.cps.toList.take tx.cps.size = tx.cps.toList := by rw [← Array.length_toList, List.take_length]
    rw [e1] at hB
    refine ⟨Nat.zero_le _, fun e ne => ?_⟩
    have s2 := s1.trans (same_upd (o := .lst []) ne)
    have hB2 := (same_upd (o := .lst []) ne) _ _ hB
    have he : upd H1 e (.lst []) e = some (.lst []) := upd_same
    generalize upd H1 e (.lst []) = H2 at s2 hB2 he ⊢
    refine ⟨_, .list [], dp_strs (SqL.of hB2), .lst (SqL.of he) .nil, shaped_strs (badS_signs sg), by decide +kernel, ?_⟩
    rw [eqvN]
    by_cases w2 : badS tx.cps.toList = []
    · refine ⟨false, by rw [decide_eq_true w2]; rfl, ?_⟩
      have ne0 : TL.tl tx ≠ [] := fun z => w0 (TL.ext_tl (by rw [z]; decide +kernel))
      obtain ⟨c0, r, e0⟩ : ∃ c0 r, TL.tl tx = c0 :: r := by
        cases e : TL.tl tx with
        | nil => exact absurd e ne0
        | cons c r => exact ⟨c, r, rfl⟩
      have lt := TL.len_tl tx
      have hm : madeM ("0123456789" : Str) tx (k : Int) = true := by
        unfold madeM
        rw [if_pos ⟨by rw [lt, e0]; exact Nat.succ_pos _, by omega⟩]
        exact List.all_eq_true.mpr fun c hc => decide_eq_true (badS_none w2 c hc)
      have last : ∀ n : Nat, tx = numS n → n < 10 ^ k → ∃ a' m, [V.str tx] = [.str a'] ∧ PySem.intText? a' = some m ∧ a'.length ≤ 640 ∧ Q (.int m) H2 := fun n e lt => by
        have l2 := TL.numL_len hk lt
        have ln := numS_len n
        have q' := qn n H2 e lt s2
        rw [e]
        exact ⟨_, _, rfl, TL.int_num (by omega), by omega, q'⟩
      by_cases z : c0 = 48
      · refine ⟨_, rfl, _, _, c0, rfl, rfl, szL (by omega), by rw [show tx.cps.toList = c0 :: r from e0]; exact atI_nat (j := 0) rfl, rfl, true, by rw [z]; decide +kernel, _, rfl, rfl, ?_⟩
        by_cases z0 : tx = ("0" : Str)
        · refine ⟨false, by rw [z0]; decide +kernel, _, rfl, ?_⟩
          exact last 0 (by rw [z0]; decide +kernel) (Nat.pow_pos (by decide))
        · refine ⟨true, ?_, ?_⟩
          · show V.bl (!decide (V.str tx = V.str ("0" : Str))) = V.bl true
            rw [decide_eq_false (fun y => z0 (V.str.inj y))]
            rfl
          · refine no s2 fun n e lt => ?_
            by_cases n0 : n = 0
            · exact z0 (by rw [e, n0]; decide +kernel)
            · obtain ⟨d, r', e', nd⟩ := numL_head n (by omega)
              rw [e, tl_numS, e'] at e0
              exact nd ((List.cons.inj e0).1.trans z)
      · refine ⟨_, rfl, _, _, c0, rfl, rfl, szL (by omega), by rw [show tx.cps.toList = c0 :: r from e0]; exact atI_nat (j := 0) rfl, rfl, false, ?_, _, rfl, ?_⟩
        · refine congrArg V.bl (decide_eq_false fun z2 => z ?_)
          have z3 := V.str.inj z2
          have z4 : TL.tl (⟨#[c0]⟩ : Str) = TL.tl ("0" : Str) := congrArg TL.tl z3
          rw [show TL.tl ("0" : Str) = [48] by decide +kernel] at z4
          exact (List.cons.inj z4).1
        · obtain ⟨n, e, lt, _⟩ := num_made hm (fun w => absurd (by rw [e0] at w; exact Option.some.inj w) z)
          exact last n e lt
    · refine ⟨true, by rw [decide_eq_false w2]; rfl, ?_⟩
      exact no s2 fun n e _ => w2 (by rw [e]; exact badS_num n)
end
/-! ### contents' texts, piece by piece -/
theorem partsM_pad {xs : List Str} {ls : List Int} {L : Nat} : ∀ d : Nat, (∀ i, L ≤ i → ls.getD i 0 = 0) → partsM xs ls (L + d) = partsM xs ls L
  | 0, _ => rfl
  | d + 1, h => by
    rw [show L + (d + 1) = (L + d) + 1 by omega, partsM_succ, if_neg (by rw [h (L + d) (by omega)]; decide), List.append_nil]
    exact partsM_pad d h
theorem partsM_ext {xs : List Str} {ls ls' : List Int} : ∀ k : Nat, (∀ i, i < k → ls.getD i 0 = ls'.getD i 0) → partsM xs ls k = partsM xs ls' k
  | 0, _ => rfl
  | k + 1, h => by
    rw [partsM_succ, partsM_succ, partsM_ext k fun i hi => h i (by omega)]
    unfold partAt
    rw [h k (by omega)]
theorem partsM_take {xs : List Str} {cs : List Int} : ∀ (m j : Nat), j < (partsM xs cs m).length → ∃ i, i < m ∧ 0 < cs.getD i 0 ∧ (partsM xs cs m)[j]? = some (partAt xs cs i) ∧ (partsM xs cs m).take j = partsM xs cs i
  | 0, j, h => absurd h (Nat.not_lt_zero _)
  | m + 1, j, h => by
    rw [partsM_succ] at h ⊢
    by_cases z : j < (partsM xs cs m).length
    · obtain ⟨i, hi, hp, e1, e2⟩ := partsM_take m j z
      exact ⟨i, by omega, hp, by rw [List.getElem?_append_left z]; exact e1, by rw [List.take_append_of_le_length (by omega)]; exact e2⟩
    · by_cases hp : 0 < cs.getD m 0
      · rw [if_pos hp] at h ⊢
        rw [List.length_append, List.length_singleton] at h
        have ej : j = (partsM xs cs m).length := by omega
        subst ej
        exact ⟨m, by omega, hp, by rw [List.getElem?_append_right (Nat.le_refl _), Nat.sub_self]; rfl, by rw [List.take_left]⟩
      · rw [if_neg hp, List.append_nil] at h
        exact absurd h z
theorem getD_set {ls : List Int} {i j : Nat} {n : Int} (h : i < ls.length) : (ls.set i n).getD j 0 = if j = i then n else ls.getD j 0 := by
  rw [List.getD_eq_getElem?_getD, List.getD_eq_getElem?_getD]
  by_cases z : j = i
  · rw [if_pos z, z, List.getElem?_set_self h]
    rfl
  · rw [if_neg z, List.getElem?_set_ne (fun e => z e.symm)]
/-- one more piece -/
theorem partsM_step {xs : List Str} {ls : List Int} {L i : Nat} {n : Nat} (hz : ∀ i, L ≤ i → ls.getD i 0 = 0) (hi : L ≤ i) (hl : i < ls.length) (hn : 0 < n) : partsM xs (ls.set i (n : Int)) (i + 1) = partsM xs ls L ++ [partS n (xs.getD i Str.empty)] := by
  have e1 : (ls.set i (n : Int)).getD i 0 = (n : Int) := by rw [getD_set hl, if_pos rfl]
  rw [partsM_succ, if_pos (by rw [e1]; omega)]
  congr 1
  · rw [partsM_ext (ls' := ls) i fun j hj => by rw [getD_set hl, if_neg (by omega)]]
    obtain ⟨d, rfl⟩ : ∃ d, i = L + d := ⟨i - L, by omega⟩
    exact partsM_pad d hz
  · unfold partAt
    rw [e1, Int.toNat_natCast]
theorem part_split {n : Nat} {x : Str} (hx : ∀ c ∈ TL.tl x, 97 ≤ c ∧ c ≤ 122) : Txt.split (partS n x) (" " : Str) = [numS n, x] := by
  have tb : TL.tl (" " : Str) = [32] := by decide +kernel
  have e : partS n x = Str.join (" " : Str) [numS n, x] := rfl
  rw [e, ← TL.join_eq]
  refine TL.split_join tb (by decide +kernel) (by simp) fun p hp => ?_
  simp only [List.mem_cons, List.not_mem_nil, or_false] at hp
  rcases hp with rfl | rfl
  · rw [tl_numS]
    exact TL.numL_free (by decide)
  · exact fun z => by
      have := hx _ z
      omega
theorem part_inj {n n' : Nat} {x x' : Str} (hx : ∀ c ∈ TL.tl x, 97 ≤ c ∧ c ≤ 122) (hx' : ∀ c ∈ TL.tl x', 97 ≤ c ∧ c ≤ 122) (h : partS n x = partS n' x') : numS n = numS n' ∧ x = x' := by
  have e := part_split (n := n) hx
  rw [h, part_split hx'] at e
  have e1 := (List.cons.inj e).1
  have e2 := (List.cons.inj (List.cons.inj e).2).1
  exact ⟨e1.symm, e2.symm⟩
theorem name_inj {xs : List Str} (g : GoodN xs) {i j : Nat} (hi : i < xs.length) (hj : j < xs.length) (h : xs.getD i Str.empty = xs.getD j Str.empty) : i = j := by
  have e1 := (name_at hi).1
  have e2 := (name_at hj).1
  rw [h, ← e2] at e1
  exact (List.getElem?_inj hi g.nd).mp e1
theorem parts_mem {xs : List Str} {cs : List Int} {m i : Nat} (hi : i < m) (h : 0 < cs.getD i 0) : partAt xs cs i ∈ partsM xs cs m := List.mem_map.mpr ⟨i, idxs_mem.mpr ⟨hi, h⟩, rfl⟩
theorem parts_of {xs : List Str} {cs : List Int} {m : Nat} {p : Str} (h : p ∈ partsM xs cs m) : ∃ i, i < m ∧ 0 < cs.getD i 0 ∧ p = partAt xs cs i := by
  obtain ⟨i, hi, rfl⟩ := List.mem_map.mp h
  have := idxs_mem.mp hi
  exact ⟨i, this.1, this.2, rfl⟩
theorem partAt_inj {xs : List Str} {cs ls : List Int} (g : GoodN xs) {i j : Nat} (hi : i < xs.length) (hj : j < xs.length) (h : partAt xs cs i = partAt xs ls j) : i = j ∧ (cs.getD i 0).toNat = (ls.getD j 0).toNat := by
  obtain ⟨e1, e2⟩ := part_inj (g.small _ (name_at hi).2) (g.small _ (name_at hj).2) h
  refine ⟨name_inj g hi hj e2, ?_⟩
  have := congrArg TL.tl e1
  rw [tl_numS, tl_numS] at this
  exact TL.numL_inj this
/-- the piece that follows, in a text that shows a content -/
theorem piece_next {xs : List Str} {cs ls : List Int} {L j : Nat} {p : Str} (g : GoodN xs) (fc : FitC xs cs) (hj : (partsM xs cs xs.length)[j]? = some p) (hpre : (partsM xs cs xs.length).take j = partsM xs ls L) (hL : L ≤ xs.length) (inv : L = 0 ∨ 0 < ls.getD (L - 1) 0) : ∃ i n : Nat, i < xs.length ∧ 0 < n ∧ n < 10 ∧ p = partS n (xs.getD i Str.empty) ∧ L ≤ i := by
  have lt := (List.getElem?_eq_some_iff.mp hj).1
  obtain ⟨i, hi, hp, e1, e2⟩ := partsM_take xs.length j lt
  rw [e1] at hj
  have ep := Option.some.inj hj
  obtain ⟨_, c1, c2⟩ := fc.at hi
  refine ⟨i, (cs.getD i 0).toNat, hi, by omega, by omega, ep.symm, ?_⟩
  rcases inv with h | h
  · omega
  · by_cases z : L = 0
    · omega
    · have m1 : partAt xs ls (L - 1) ∈ partsM xs ls L := parts_mem (by omega) h
      rw [← hpre, e2] at m1
      obtain ⟨i', hi', _, e⟩ := parts_of m1
      have := (partAt_inj g (by omega) (by omega) e).1
      omega
theorem parts_uniq {xs : List Str} {cs ls : List Int} (g : GoodN xs) (f1 : FitC xs cs) (f2 : FitC xs ls) (h : partsM xs cs xs.length = partsM xs ls xs.length) : cs = ls := by
  have half : ∀ {a b : List Int}, FitC xs a → FitC xs b → partsM xs a xs.length = partsM xs b xs.length → ∀ i, i < xs.length → 0 < a.getD i 0 → a.getD i 0 = b.getD i 0 := fun {a b} fa fb e i hi hp => by
    have m1 : partAt xs a i ∈ partsM xs a xs.length := parts_mem hi hp
    rw [e] at m1
    obtain ⟨i', hi', hp', e'⟩ := parts_of m1
    obtain ⟨z1, z2⟩ := partAt_inj g hi hi' e'
    subst z1
    have := fa.at hi
    have := fb.at hi
    omega
  refine List.ext_getElem (f1.len.trans f2.len.symm) fun i h1 h2 => ?_
  have hi : i < xs.length := by rw [← f1.len]; exact h1
  have e1 : cs.getD i 0 = cs[i] := by rw [List.getD_eq_getElem?_getD, List.getElem?_eq_getElem h1]; rfl
  have e2 : ls.getD i 0 = ls[i] := by rw [List.getD_eq_getElem?_getD, List.getElem?_eq_getElem h2]; rfl
  rw [← e1, ← e2]
  have a1 := f1.at hi
  have a2 := f2.at hi
  by_cases p1 : 0 < cs.getD i 0
  · exact half f1 f2 h i hi p1
  · by_cases p2 : 0 < ls.getD i 0
    · exact (half f2 f1 h.symm i hi p2).symm
    · omega
theorem show_parts {xs : List Str} {cs : List Int} (g : GoodN xs) (h : showM xs cs ≠ ("nothing" : Str)) : partsM xs cs xs.length ≠ [] ∧ Txt.split (showM xs cs) (", " : Str) = partsM xs cs xs.length := by
  by_cases z : partsM xs cs xs.length = []
  · exact absurd (by unfold showM; rw [if_pos z]) h
  · refine ⟨z, ?_⟩
    unfold showM
    rw [if_neg z]
    exact join_split g z
theorem show_uniq {xs : List Str} {cs ls : List Int} (g : GoodN xs) (f1 : FitC xs cs) (f2 : FitC xs ls) (h : showM xs cs = showM xs ls) : cs = ls := by
  refine parts_uniq g f1 f2 ?_
  by_cases z : showM xs cs = ("nothing" : Str)
  · have none : ∀ {a : List Int}, showM xs a = ("nothing" : Str) → partsM xs a xs.length = [] := fun {a} e => by
      by_cases y : partsM xs a xs.length = []
      · exact y
      · unfold showM at e
        rw [if_neg y] at e
        exact absurd e (joined_other y)
    rw [none z, none (h.symm.trans z)]
  · rw [← (show_parts g z).2, h, (show_parts g (fun e => z (h.trans e))).2]
def ReadC (xs : List Str) (tx : Str) : Prop := ∃ cs, tx = showM xs cs ∧ FitC xs cs ∧ boundM cs ≤ 400
/-! ### _law_content_of -/
abbrev s_law_content_of : Stmt := topS 40
abbrev N_law_content_of : List Str := ["_law_names_here", "_law_text", "_law_found", "_law_last", "_law_piece", "_law_words", "_law_number", "_law_at"]
theorem sc_law_content_of : FnScope N_law_content_of ["_law_names_here", "_law_text"] (defScope s_law_content_of) := ⟨rfl, rfl, rfl, by decide +kernel, rfl, by decide +kernel, by decide +kernel⟩

def sp_lcontent_of : Sp := fun vs H Q _ => ∃ (a : Addr) (xs : List Str) (tx : Str), vs = [.ref a, .str tx] ∧ H a = some (LS xs) ∧ GoodN xs ∧ tx.length ≤ 90000 ∧ Signs tx ∧
  (∀ cs, tx = showM xs cs → FitC xs cs → boundM cs ≤ 400 → ∀ H' p, Same H H' → H p = none → H' p = some (LI cs) → Q (.ref p) H') ∧ (¬ ReadC xs tx → ∀ H', Same H H' → Q .non H')
/-- j pieces are read into ls, L places are passed -/
structure Got (xs pp : List Str) (j : Nat) (ls : List Int) (L : Nat) : Prop where
  fit : FitC xs ls
  le : L ≤ xs.length
  pre : pp.take j = partsM xs ls L
  zero : ∀ i, L ≤ i → ls.getD i 0 = 0
  last : L = 0 ∨ 0 < ls.getD (L - 1) 0
theorem Got.start {xs pp : List Str} : Got xs pp 0 (List.replicate xs.length 0) 0 := by
  refine ⟨zeros_fit, Nat.zero_le _, rfl, fun i _ => ?_, .inl rfl⟩
  rw [List.getD_eq_getElem?_getD, List.getElem?_replicate]
  split <;> rfl
theorem Got.next {xs pp : List Str} {j : Nat} {ls : List Int} {L i n : Nat} (h : Got xs pp j ls L) (hp : pp[j]? = some (partS n (xs.getD i Str.empty))) (hi : i < xs.length) (hn : 0 < n) (h9 : n < 10) (hL : L ≤ i) : Got xs pp (j + 1) (ls.set i (n : Int)) (i + 1) := by
  have ll : i < ls.length := by rw [h.fit.len]; exact hi
  refine ⟨⟨by rw [List.length_set]; exact h.fit.len, fun x hx => ?_⟩, by omega, ?_, fun k hk => ?_, .inr ?_⟩
  · rcases List.mem_or_eq_of_mem_set hx with m | m
    · exact h.fit.small _ m
    · omega
  · rw [take_succ_at hp, h.pre, partsM_step h.zero hL ll hn]
  · rw [getD_set ll, if_neg (by omega)]
    exact h.zero k (by omega)
  · rw [show i + 1 - 1 = i by omega, getD_set ll, if_pos rfl]
    omega
section
variable {P : Program} {w : World} {K : PySem.W.Frag} {mg : Str → Option Value} {base : Heap}
theorem ok_lcontent_of {f f1 f2 : Addr} {fd fd1 fd2 : FuncData} {k : Nat} (M : Names mg) (D : Def K mg "_law_content_of" s_law_content_of ["_law_names_here", "_law_text"] f fd)
    (D_law_number_of : Def K mg "_law_number_of" s_law_number_of ["_law_text", "_law_most"] f1 fd1) (G_law_number_of : FnOk P w K mg base CX0 k f1 fd1 ["_law_text", "_law_most"] sp_number_of)
    (D_law_cases : Def K mg "_law_cases" s_law_cases ["_law_want_here"] f2 fd2) (G_law_cases : FnOk P w K mg base CX0 k f2 fd2 ["_law_want_here"] (sp_cases K)) :
    FnOk P w K mg base CX0 (k + 1) f fd ["_law_names_here", "_law_text"] sp_lcontent_of := by
  refine D.F.ok sc_law_content_of (fun vs H Q E h => ?_) (fun cdv A outer s H vs Q E hr h => ?_)
  · obtain ⟨a, xs, tx, rfl, _⟩ := h
    rfl
  · obtain ⟨a, xs, tx, rfl, ha, g, al, sg, qc, qn⟩ := h
    have few := g.few
    refine ⟨_, (pss_cons (ps_set (i := 2) sc_law_content_of.nd rfl (Or.inl rfl) (pe_op op_rep (pe_lst (pa_cons pe_int pa_nil)) (pe_callB call_len_seq (by rfl) M.len (by decide +kernel) (pa_cons (pv 0) pa_nil))))
  (pss_cons (ps_if (pt_cmpR op_eq (pv 1) pe_str (nomark _))
   (pss_one (ps_ret (pv 2)))
   pss_nil)
  (pss_cons (ps_set (i := 3) sc_law_content_of.nd rfl (Or.inl rfl) (pe_un un_neg pe_int))
  (pss_cons (ps_for PassesOwn.never rfl (pi_list (pe_split (pv 1) pe_str)) (pg_name (i := 4) sc_law_content_of.nd rfl (Or.inl rfl))
   (pss_cons (ps_set (i := 5) sc_law_content_of.nd rfl (Or.inl rfl) (pe_split (pv 4) pe_str))
  (pss_cons (ps_if (PW.pt (pw_or (pt_cmpR op_ne (pe_callB call_len_seq (by rfl) M.len (by decide +kernel) (pa_cons (pv 5) pa_nil)) pe_int (nomark _)) (pw_or1 (pt_cmpR op_notIn_seq (pe_ix ix_list (pv 5) pe_int (fun _ _ => rfl)) (pv 0) (by rfl)))))
   (pss_one (ps_ret pe_non))
   pss_nil)
  (pss_cons (ps_set (i := 6) sc_law_content_of.nd rfl (Or.inl rfl) (pe_call G_law_number_of hr (by rfl) D_law_number_of.g D_law_number_of.F.kp D_law_number_of.b .nil pass0 (pa_cons (pe_ix ix_list (pv 5) pe_int (fun _ _ => rfl)) (pa_cons pe_int pa_nil))))
  (pss_cons (ps_set (i := 7) sc_law_content_of.nd rfl (Or.inl rfl) (pe_bm PySem.F.plainAttrs_list PySem.F.slot_list_index PySem.F.type_list_index mt_index (pv 0) (pa_cons (pe_ix ix_list (pv 5) pe_int (fun _ _ => rfl)) pa_nil)))
  (pss_cons (ps_if (PW.pt (pw_or (pt_cmpR op_isN (pv 6) pe_non (nomark _)) (pw_or (pt_cmpR op_eq (pv 6) pe_int (nomark _)) (pw_or1 (pt_cmpR op_le (pv 7) (pv 3) (nomark _))))))
   (pss_one (ps_ret pe_non))
   pss_nil)
  (pss_cons (ps_set (i := 3) sc_law_content_of.nd rfl (Or.inl rfl) (pv 7))
  (pss_one (ps_asg (pv 6) (pg_sub (pv 2) (pv 7) set_list))))))))))
  (pss_cons (ps_if (pt_cmpR op_gt (pe_call G_law_cases hr (by rfl) D_law_cases.g D_law_cases.F.kp D_law_cases.b .nil pass0 (pa_cons (pv 2) pa_nil)) pe_int (nomark _))
   (pss_one (ps_ret pe_non))
   pss_nil)
  (pss_one (ps_ret (pv 2)))))))), ?_⟩
    refine ⟨by show 1 ≤ sizeLine; decide, fun l nl => ?_⟩
    have s1 := same_upd (o := .lst [V.int 0]) nl
    refine ⟨_, rfl, a, _, rfl, .inl (SqL.of (s1 _ _ ha)), l, _, _, rfl, rfl, upd_same, by omega, by rw [List.length_map]; omega, szL (by rw [List.length_map]; show 1 * ((xs.length : Nat) : Int).toNat ≤ _; omega), fun B nB => ?_⟩
    have s2 := s1.trans (same_upd (o := .lst (List.replicate ((((xs.map V.str).length : Nat) : Int)).toNat [V.int 0]).flatten) nB)
    have hB : upd (upd H l (.lst [V.int 0])) B (.lst (List.replicate ((((xs.map V.str).length : Nat) : Int)).toNat [V.int 0]).flatten) B = some (LI (List.replicate xs.length 0)) := by
      rw [upd_same, zeros_map, Int.toNat_natCast, List.length_map]
    have nB0 : H B = none := s1.free nB
    generalize upd (upd H l (.lst [V.int 0])) B (.lst (List.replicate ((((xs.map V.str).length : Nat) : Int)).toNat [V.int 0]).flatten) = H1 at s2 hB ⊢
    by_cases z : tx = ("nothing" : Str)
    · refine ⟨_, rfl, rfl, true, congrArg V.bl (decide_eq_true (congrArg V.str z)), _, rfl, ?_⟩
      exact qc _ (by rw [z, zeros_show]) zeros_fit (by rw [zeros_bound]; decide) H1 B s2 nB0 hB
    refine ⟨_, rfl, rfl, false, congrArg V.bl (decide_eq_false fun z2 => z (V.str.inj z2)), ?_⟩
    change ∃ x, _
    refine ⟨1, rfl, ?_⟩
    refine ⟨_, rfl, ⟨_, rfl⟩, _, _, rfl, rfl, by decide +kernel, szL (by omega), fun Lp nLp => ?_⟩
    have sl : ∀ p ∈ Txt.split tx (", " : Str), p.length ≤ tx.length ∧ Signs p := fun p hp => ⟨split_len hp, split_signs sg hp⟩
    have jn : Str.join (", " : Str) (Txt.split tx (", " : Str)) = tx := StrLaws.join_split tx (", " : Str)
    have sp : ∀ cs, tx = showM xs cs → FitC xs cs → boundM cs ≤ 400 → Txt.split tx (", " : Str) = partsM xs cs xs.length := fun cs e _ _ => by
      have := (show_parts (xs := xs) (cs := cs) g (by rw [← e]; exact z)).2
      rw [← e] at this
      exact this
    have ppne := split_some tx
    generalize Txt.split tx (", " : Str) = pp at sl jn sp ppne ⊢
    have hLp : upd H1 Lp (.lst (pp.map V.str)) Lp = some (LS pp) := upd_same
    have hB1 := (same_upd (o := .lst (pp.map V.str)) nLp) _ _ hB
    have s3 := s2.trans (same_upd (o := .lst (pp.map V.str)) nLp)
    have neLB : Lp ≠ B := fun e => by rw [e, hB] at nLp; cases nLp
    have nLp0 : H Lp = none := s2.free nLp
    generalize upd H1 Lp (.lst (pp.map V.str)) = H2 at hLp hB1 s3 ⊢
    refine ⟨Lp, rfl, ⟨_, SqL.of hLp⟩, for_list (xs := pp.map V.str) (fun j σ H' => ∃ (y4 y5 y6 y7 : Option V) (lv : Int) (ls : List Int) (L : Nat), σ = [some (.ref a), some (.str tx), some (.ref B), some (.int lv), y4, y5, y6, y7] ∧ lv = (L : Int) - 1 ∧ Same H H' ∧ H' Lp = some (LS pp) ∧ H' B = some (LI ls) ∧ Got xs pp j ls L) ⟨none, none, none, none, _, _, 0, rfl, by decide, s3, hLp, hB1, Got.start⟩ (fun i σ H' _ hp => ?_) (fun j x σ H3 hx hp => ?_) (fun σ H3 hp => ?_)⟩
    · obtain ⟨_, _, _, _, _, _, _, _, _, _, h, _⟩ := hp
      exact SqL.of h
    · obtain ⟨y4, y5, y6, y7, lv, ls, L, rfl, elv, s4, hL4, hB4, got⟩ := hp
      obtain ⟨p, hp, rfl⟩ := of_get_strs hx
      obtain ⟨pl, psg⟩ := sl p (List.mem_of_getElem? hp)
      have no : ∀ {H' : Hp}, Same H H' → (∀ i n : Nat, i < xs.length → 0 < n → n < 10 → p = partS n (xs.getD i Str.empty) → L ≤ i → False) → Q .non H' := fun s hn => qn (fun ⟨cs, e, fc, hb⟩ => by
        have e2 := sp cs e fc hb
        have pre := got.pre
        rw [e2] at hp pre
        obtain ⟨i, n, h1, h2, h3, h4, h5⟩ := piece_next g fc hp pre got.le got.last
        exact hn i n h1 h2 h3 h4 h5) _ s
      refine ⟨_, rfl, ⟨_, rfl⟩, _, _, rfl, rfl, by decide +kernel, szL (by omega), fun W nW => ?_⟩
      have jw : Str.join (" " : Str) (Txt.split p (" " : Str)) = p := StrLaws.join_split p (" " : Str)
      have wsg : ∀ q ∈ Txt.split p (" " : Str), Signs q ∧ q.length ≤ p.length := fun q hq => ⟨split_signs psg hq, split_len hq⟩
      have wpart : ∀ (n : Nat) (i : Nat), i < xs.length → p = partS n (xs.getD i Str.empty) → Txt.split p (" " : Str) = [numS n, xs.getD i Str.empty] := fun n i hi e => by rw [e]; exact part_split (g.small _ (name_at hi).2)
      generalize Txt.split p (" " : Str) = ws at jw wsg wpart ⊢
      have hW : upd H3 W (.lst (ws.map V.str)) W = some (LS ws) := upd_same
      have hL5 := (same_upd (o := .lst (ws.map V.str)) nW) _ _ hL4
      have hB5 := (same_upd (o := .lst (ws.map V.str)) nW) _ _ hB4
      have s5 := s4.trans (same_upd (o := .lst (ws.map V.str)) nW)
      generalize upd H3 W (.lst (ws.map V.str)) = H4 at hW hL5 hB5 s5 ⊢
      have ha5 := s5 _ _ ha
      refine ⟨_, rfl, W, _, rfl, .inl (SqL.of hW), rfl, ?_⟩
      by_cases w2 : ws.length = 2
      · refine ⟨false, by rw [List.length_map, w2]; decide, ?_⟩
        obtain ⟨w0, w1, rfl⟩ : ∃ w0 w1, ws = [w0, w1] := by
          match ws, w2 with
          | [a, b], _ => exact ⟨a, b, rfl⟩
        have ep : p = w0 ++ (" " : Str) ++ w1 := jw.symm
        obtain ⟨w0s, w0l⟩ := wsg w0 List.mem_cons_self
        refine ⟨_, rfl, W, _, _, _, rfl, rfl, SqL.of hW, atI_nat (j := 1) rfl, _, rfl, a, _, rfl, .inl (SqL.of ha5), rfl, flat_strs xs, decide (¬ w1 ∈ xs), ?_, ?_⟩
        · show V.bl (!inV (.str w1) (xs.map V.str)) = V.bl _
          rw [inV_strs]
          by_cases m : w1 ∈ xs
          · rw [decide_eq_true m, decide_eq_false (fun z => z m)]
            rfl
          · rw [decide_eq_false m, decide_eq_true m]
            rfl
        by_cases m : w1 ∈ xs
        · rw [decide_eq_false (fun z => z m)]
          obtain ⟨i, hx1⟩ := List.mem_iff_getElem?.mp m
          have hi := (List.getElem?_eq_some_iff.mp hx1).1
          have ex : xs.getD i Str.empty = w1 := by rw [List.getD_eq_getElem?_getD, hx1]; rfl
          have same : ∀ (i' n' : Nat), i' < xs.length → p = partS n' (xs.getD i' Str.empty) → w0 = numS n' ∧ i' = i := fun i' n' hi' e => by
            have e2 := wpart n' i' hi' e
            refine ⟨(List.cons.inj e2).1, name_inj g hi' hi ?_⟩
            rw [ex]
            exact (List.cons.inj (List.cons.inj e2).2).1.symm
          change ∃ x, _
          refine ⟨_, rfl, W, _, _, _, rfl, rfl, SqL.of hW, atI_nat (j := 0) rfl, w0, 1, rfl, by omega, w0s, by decide, by decide, fun n H5 en hn s6 => ?_, fun nr H5 s6 => ?_⟩
          · have ha6 := s6 _ _ ha5
            have hW6 := s6 _ _ hW
            have hB6 := s6 _ _ hB5
            have hL6 := s6 _ _ hL5
            have s6 := s5.trans s6
            refine ⟨_, rfl, .inl ⟨rfl, _, SqL.of ha6⟩, _, rfl, W, _, _, _, rfl, rfl, SqL.of hW6, atI_nat (j := 1) rfl, a, _, _, i, _, rfl, rfl, SqL.of ha6, rfl, flat_strs xs, get_strs hx1, beq_self_eq_true w1, nodup_at g.nd hx1, ?_⟩
            refine ⟨_, rfl, rfl, false, rfl, _, rfl, rfl, ?_⟩
            by_cases n0 : n = 0
            · refine ⟨true, congrArg V.bl (decide_eq_true (by rw [n0]; rfl)), ?_⟩
              exact no s6 fun i' n' hi' h1 h2 e hL => by
                have e3 := congrArg TL.tl (en.symm.trans (same i' n' hi' e).1)
                rw [tl_numS, tl_numS] at e3
                have := TL.numL_inj e3
                omega
            refine ⟨false, congrArg V.bl (decide_eq_false (fun z => n0 (by have := V.int.inj z; omega))), ?_⟩
            refine ⟨_, rfl, _, rfl, _, _, rfl, rfl, ?_⟩
            by_cases le : (i : Int) ≤ lv
            · refine ⟨true, congrArg V.bl (decide_eq_true le), ?_⟩
              exact no s6 fun i' n' hi' h1 h2 e hL => by
                have := (same i' n' hi' e).2
                omega
            refine ⟨false, congrArg V.bl (decide_eq_false le), ?_⟩
            have lf := got.fit.len
            have hp' : pp[j]? = some (partS n (xs.getD i Str.empty)) := by
              rw [hp, ep, en, ex]
              rfl
            refine ⟨_, rfl, _, rfl, _, rfl, _, rfl, B, _, _, i, rfl, rfl, hB6, ixN_nat (by rw [List.length_map]; omega), ?_⟩
            refine ⟨_, _, _, _, (i : Int), ls.set i (n : Int), i + 1, rfl, by omega, sm_new s6 nB0, ?_, at_set, got.next hp' hi (by omega) (by omega) (by omega)⟩
            rw [upd_ne neLB]
            exact hL6
          · have ha6 := s6 _ _ ha5
            have hW6 := s6 _ _ hW
            have s6 := s5.trans s6
            refine ⟨_, rfl, .inl ⟨rfl, _, SqL.of ha6⟩, _, rfl, W, _, _, _, rfl, rfl, SqL.of hW6, atI_nat (j := 1) rfl, a, _, _, i, _, rfl, rfl, SqL.of ha6, rfl, flat_strs xs, get_strs hx1, beq_self_eq_true w1, nodup_at g.nd hx1, ?_⟩
            refine ⟨_, rfl, rfl, true, rfl, ?_⟩
            exact no s6 fun i' n' hi' h1 h2 e hL => nr ⟨n', (same i' n' hi' e).1, h2⟩
        · rw [decide_eq_true m]
          exact no s5 fun i n hi h1 h2 e hL => m (by
            have e2 := wpart n i hi e
            rw [(List.cons.inj (List.cons.inj e2).2).1]
            exact (name_at hi).2)
      · refine ⟨true, ?_, ?_⟩
        · show V.bl (!decide (V.int (((ws.map V.str).length : Nat) : Int) = V.int 2)) = V.bl true
          rw [List.length_map, decide_eq_false (fun y => w2 (by have := V.int.inj y; omega))]
          rfl
        · exact no s5 fun i n hi h1 h2 e hL => w2 (by rw [wpart n i hi e]; rfl)
    · obtain ⟨y4, y5, y6, y7, lv, ls, L, rfl, elv, s4, hL4, hB4, got⟩ := hp
      rw [List.length_map] at got
      have epp : pp = partsM xs ls xs.length := by
        have h1 := got.pre
        rw [List.take_length] at h1
        obtain ⟨d, hd⟩ : ∃ d, xs.length = L + d := ⟨xs.length - L, by have := got.le; omega⟩
        rw [h1, hd, partsM_pad d got.zero]
      have etx : tx = showM xs ls := by
        rw [← jn]
        unfold showM
        rw [if_neg (by rw [← epp]; exact ppne), ← epp]
      refine ⟨_, rfl, B, ls, rfl, SqL.of hB4, (fun w hw => by have := got.fit.small w hw; omega), _, _, rfl, rfl, ?_⟩
      by_cases c4 : 400 < casesM ls
      · refine ⟨true, congrArg V.bl (decide_eq_true c4), ?_⟩
        exact qn (fun ⟨cs, e, fc, hb⟩ => by
          have e2 := show_uniq g fc got.fit (e.symm.trans etx)
          subst e2
          have hb : casesM cs ≤ 400 := hb
          omega) _ s4
      · refine ⟨false, congrArg V.bl (decide_eq_false c4), _, rfl, ?_⟩
        exact qc ls etx got.fit (by show casesM ls ≤ 400; omega) _ B s4 nB0 hB4
end
/-! ### texts cut at the first or the last place of a sign -/
theorem cutS_take (z : Str) {i : Nat} (h : i ≤ z.length) : TL.tl (cutS z none (some (i : Int))) = (TL.tl z).take i := by
  show ((z.cps.toList.drop (HT.sIx z.length 0 none)).take (HT.sIx z.length z.length (some (i : Int)) - HT.sIx z.length 0 none)) = z.cps.toList.take i
  rw [HT.sIx_none, HT.sIx_nat, Nat.min_eq_left h, List.drop_zero, Nat.sub_zero]
theorem cutS_drop (z : Str) {i : Nat} (h : i ≤ z.length) : TL.tl (cutS z (some (i : Int)) none) = (TL.tl z).drop i := by
  show ((z.cps.toList.drop (HT.sIx z.length 0 (some (i : Int)))).take (HT.sIx z.length z.length none - HT.sIx z.length 0 (some (i : Int)))) = z.cps.toList.drop i
  rw [HT.sIx_none, HT.sIx_nat, Nat.min_eq_left h]
  exact List.take_of_length_le (by rw [List.length_drop]; have : z.cps.toList.length = z.length := Array.length_toList; omega)
theorem cutS_mid (z : Str) {i j : Nat} (hi : i ≤ z.length) (hj : j ≤ z.length) : TL.tl (cutS z (some (i : Int)) (some (j : Int))) = ((TL.tl z).drop i).take (j - i) := by
  show ((z.cps.toList.drop (HT.sIx z.length 0 (some (i : Int)))).take (HT.sIx z.length z.length (some (j : Int)) - HT.sIx z.length 0 (some (i : Int)))) = _
  rw [HT.sIx_nat, HT.sIx_nat, Nat.min_eq_left hi, Nat.min_eq_left hj]
theorem at_there {u y v : Str} (hy : TL.tl y ≠ []) : StrLaws.At (u ++ y ++ v) y (u ++ y ++ v).length u.length := by
  rw [TL.at_iff hy, TL.tl_append, TL.tl_append, List.append_assoc, TL.len_tl u, List.drop_left]
  exact TL.pre_self _ _
theorem sub_cut {tx y : Str} {i : Nat} (h : i + y.length ≤ tx.length) : Builtin.Str.strSub tx 0 i = cutS tx none (some (i : Int)) ∧ Builtin.Str.strSub tx (i + y.length) tx.length = cutS tx (some ((i + y.length : Nat) : Int)) none := by
  constructor
  · exact TL.ext_tl (by rw [TL.tl_strSub, cutS_take tx (by omega), List.drop_zero, Nat.sub_zero])
  · exact TL.ext_tl (by rw [TL.tl_strSub_end, cutS_drop tx h])
/-- what a cut at i tells -/
structure CutAt (tx y : Str) (i : Nat) : Prop where
  le : i + y.length ≤ tx.length
  sum : tx = cutS tx none (some (i : Int)) ++ y ++ cutS tx (some ((i + y.length : Nat) : Int)) none
theorem rfind_ways {tx y : Str} (hy : TL.tl y ≠ []) : (∃ i : Nat, Txt.rfind tx y = (i : Int) ∧ CutAt tx y i ∧ Txt.rpartition tx y = (cutS tx none (some (i : Int)), y, cutS tx (some ((i + y.length : Nat) : Int)) none)) ∨ (Txt.rfind tx y = -1 ∧ ∀ u v, tx ≠ u ++ y ++ v) := by
  unfold Txt.rfind Txt.rpartition
  rcases StrLaws.last_spec tx y with ⟨h0, no⟩ | ⟨i, h0, hi, _⟩
  · rw [h0]
    refine .inr ⟨rfl, fun u v e => no u.length ?_⟩
    rw [e]
    exact at_there hy
  · rw [h0]
    have le := hi.1
    obtain ⟨e1, e2⟩ := sub_cut (tx := tx) (y := y) le
    refine .inl ⟨i, rfl, ⟨le, ?_⟩, by rw [← e1, ← e2]⟩
    rw [← e1, ← e2]
    exact (text_at hy hi).symm
theorem find_ways {tx y : Str} (hy : TL.tl y ≠ []) : (∃ i : Nat, Txt.find tx y = (i : Int) ∧ CutAt tx y i ∧ Txt.partition tx y = (cutS tx none (some (i : Int)), y, cutS tx (some ((i + y.length : Nat) : Int)) none)) ∨ (Txt.find tx y = -1 ∧ ∀ u v, tx ≠ u ++ y ++ v) := by
  unfold Txt.find Txt.partition
  rcases StrLaws.occ_head tx y 1 (Nat.le_refl 1) with ⟨h0, no⟩ | ⟨i, r, h0, hi, _⟩
  · rw [h0]
    refine .inr ⟨rfl, fun u v e => no u.length ?_⟩
    rw [e]
    exact at_there hy
  · rw [h0]
    have le := hi.1
    obtain ⟨e1, e2⟩ := sub_cut (tx := tx) (y := y) le
    refine .inl ⟨i, rfl, ⟨le, ?_⟩, by rw [← e1, ← e2]⟩
    rw [← e1, ← e2]
    exact (text_at hy hi).symm
/-! ### _law_priced_of, _law_pack_of -/
abbrev s_law_priced_of : Stmt := topS 41
abbrev N_law_priced_of : List Str := ["_law_text", "_law_at", "_law_price_here"]
theorem sc_law_priced_of : FnScope N_law_priced_of ["_law_text"] (defScope s_law_priced_of) := ⟨rfl, rfl, rfl, by decide +kernel, rfl, by decide +kernel, by decide +kernel⟩

abbrev s_law_pack_of : Stmt := topS 42
abbrev N_law_pack_of : List Str := ["_law_names_here", "_law_text", "_law_priced", "_law_content_here"]
theorem sc_law_pack_of : FnScope N_law_pack_of ["_law_names_here", "_law_text"] (defScope s_law_pack_of) := ⟨rfl, rfl, rfl, by decide +kernel, rfl, by decide +kernel, by decide +kernel⟩

def PricR (tx u : Str) (n : Nat) : Prop := tx = u ++ (" for " : Str) ++ numS n ∧ n < 10 ^ 12
def sp_priced_of : Sp := fun vs H Q _ => ∃ tx : Str, vs = [.str tx] ∧ tx.length ≤ 90000 ∧ Signs tx ∧ (∀ u n H' t, PricR tx u n → u.length ≤ tx.length → Signs u → Same H H' → H t = none → H' t = some (.tup [.str u, .int (n : Nat)]) → Q (.ref t) H') ∧ ((∀ u n, ¬ PricR tx u n) → ∀ H', Same H H' → Q .non H')
theorem pric_uniq {tx u u' : Str} {n n' : Nat} (h : PricR tx u n) (h' : PricR tx u' n') : u = u' ∧ numS n = numS n' := by
  have e := rpart_app u n
  rw [← h.1, h'.1, rpart_app] at e
  injection e with e1 e2
  injection e2 with _ e2
  exact ⟨e1.symm, e2.symm⟩
def ReadP (xs : List Str) (tx : Str) (c : List Int) (p : Int) : Prop := tx = soldS xs c p ∧ Goods xs c ∧ 0 ≤ p ∧ p < 1000000000000
def sp_pack_of : Sp := fun vs H Q _ => ∃ (a : Addr) (xs : List Str) (tx : Str), vs = [.ref a, .str tx] ∧ H a = some (LS xs) ∧ GoodN xs ∧ tx.length ≤ 90000 ∧ Signs tx ∧
  (∀ c p H' v b, ReadP xs tx c p → Same H H' → H b = none → H v = none → H' v = some (.tup [.str "pack", .ref b, .int p]) → H' b = some (LI c) → Q (.ref v) H') ∧ ((∀ c p, ¬ ReadP xs tx c p) → ∀ H', Same H H' → Q .non H')
section
variable {P : Program} {w : World} {K : PySem.W.Frag} {mg : Str → Option Value} {base : Heap}
theorem ok_priced_of {f f1 : Addr} {fd fd1 : FuncData} {k : Nat} (M : Names mg) (D : Def K mg "_law_priced_of" s_law_priced_of ["_law_text"] f fd) (D_law_number_of : Def K mg "_law_number_of" s_law_number_of ["_law_text", "_law_most"] f1 fd1) (G_law_number_of : FnOk P w K mg base CX0 k f1 fd1 ["_law_text", "_law_most"] sp_number_of) : FnOk P w K mg base CX0 (k + 1) f fd ["_law_text"] sp_priced_of := by
  refine D.F.ok sc_law_priced_of (fun vs H Q E h => ?_) (fun cdv A outer s H vs Q E hr h => ?_)
  · obtain ⟨tx, rfl, _⟩ := h
    rfl
  · obtain ⟨tx, rfl, al, sg, q, qn⟩ := h
    refine ⟨_, (pss_cons (ps_set (i := 1) sc_law_priced_of.nd rfl (Or.inl rfl) (pe_m1 PySem.F.slot_str_rfind PySem.F.type_str_rfind mt_rfind (pv 0) pe_str))
  (pss_cons (ps_set (i := 2) sc_law_priced_of.nd rfl (Or.inl rfl) (pe_call G_law_number_of hr (by rfl) D_law_number_of.g D_law_number_of.F.kp D_law_number_of.b .nil pass0 (pa_cons (pe_slice sl_str (pv 0) (po_some (pe_op op_add (pv 1) pe_int)) po_none) (pa_cons pe_int pa_nil))))
  (pss_cons (ps_if (PW.pt (pw_or (pt_cmpR op_lt (pv 1) pe_int (nomark _)) (pw_or1 (pt_cmpR op_isN (pv 2) pe_non (nomark _)))))
   (pss_one (ps_ret pe_non))
   pss_nil)
  (pss_one (ps_ret (pe_tup (pa_cons (pe_slice sl_str (pv 0) po_none (po_some (pv 1))) (pa_cons (pv 2) pa_nil)))))))), ?_⟩
    have hy : TL.tl (" for " : Str) ≠ [] := by rw [tl_for]; exact fun z => nomatch z
    have alS : tx.length ≤ sizeLine := szL (by omega)
    refine ⟨_, rfl, ⟨_, rfl⟩, _, _, rfl, rfl, ?_⟩
    rcases rfind_ways (tx := tx) hy with ⟨i, ei, ct, er⟩ | ⟨ei, no⟩
    · rw [ei]
      have e5 : (i : Int) + 5 = ((i + (" for " : Str).length : Nat) : Int) := by rw [for_len]; rfl
      generalize hu : cutS tx none (some (i : Int)) = u at ct er
      have sum := ct.sum
      rw [hu] at sum
      generalize hv : cutS tx (some ((i + (" for " : Str).length : Nat) : Int)) none = v at er sum
      have ls : u.length + 5 + v.length = tx.length := by
        rw [sum, str_len_app, str_len_app, for_len]
      have su : Signs u := by rw [← hu]; exact cutS_signs sg _ _
      have sv : Signs v := by rw [← hv]; exact cutS_signs sg _ _
      refine ⟨_, rfl, _, rfl, _, _, rfl, rfl, _, rfl, tx, rfl, alS, ?_⟩
      rw [e5, hv]
      refine ⟨v, 12, rfl, by omega, sv, by decide, by decide, fun n H1 en hn s1 => ?_, fun nr H1 s1 => ?_⟩
      · have pr : PricR tx u n := ⟨by rw [← en]; exact sum, hn⟩
        refine ⟨_, rfl, _, _, rfl, rfl, false, congrArg V.bl (decide_eq_false (by omega)), _, rfl, rfl, false, rfl, ?_⟩
        refine ⟨_, rfl, _, rfl, _, rfl, tx, rfl, alS, ?_⟩
        rw [hu]
        exact ⟨_, rfl, by show 2 ≤ sizeLine; decide, fun t nt => q u n _ t pr (by omega) su (s1.trans (same_upd nt)) (s1.free nt) upd_same⟩
      · refine ⟨_, rfl, _, _, rfl, rfl, false, congrArg V.bl (decide_eq_false (by omega)), _, rfl, rfl, true, rfl, ?_⟩
        refine qn (fun u' n' h => nr ⟨n', ?_, h.2⟩) _ s1
        have e := h.1
        rw [e, rpart_app] at er
        injection er with _ er
        injection er with _ er
        exact er.symm
    · rw [ei]
      have none_ : ∀ u n, ¬ PricR tx u n := fun u n h => no u (numS n) h.1
      refine ⟨_, rfl, _, rfl, _, _, rfl, rfl, _, rfl, tx, rfl, alS, ?_⟩
      refine ⟨_, 12, rfl, Nat.le_trans (cutS_length _ _ _) al, cutS_signs sg _ _, by decide, by decide, fun n H1 en hn s1 => ?_, fun nr H1 s1 => ?_⟩
      · exact ⟨_, rfl, _, _, rfl, rfl, true, by decide +kernel, qn none_ _ s1⟩
      · exact ⟨_, rfl, _, _, rfl, rfl, true, by decide +kernel, qn none_ _ s1⟩
theorem ok_pack_of {f f1 f2 : Addr} {fd fd1 fd2 : FuncData} {k : Nat} (M : Names mg) (D : Def K mg "_law_pack_of" s_law_pack_of ["_law_names_here", "_law_text"] f fd) (D_law_priced_of : Def K mg "_law_priced_of" s_law_priced_of ["_law_text"] f1 fd1) (G_law_priced_of : FnOk P w K mg base CX0 k f1 fd1 ["_law_text"] sp_priced_of)
    (D_law_content_of : Def K mg "_law_content_of" s_law_content_of ["_law_names_here", "_law_text"] f2 fd2) (G_law_content_of : FnOk P w K mg base CX0 k f2 fd2 ["_law_names_here", "_law_text"] sp_lcontent_of) : FnOk P w K mg base CX0 (k + 1) f fd ["_law_names_here", "_law_text"] sp_pack_of := by
  refine D.F.ok sc_law_pack_of (fun vs H Q E h => ?_) (fun cdv A outer s H vs Q E hr h => ?_)
  · obtain ⟨a, xs, tx, rfl, _⟩ := h
    rfl
  · obtain ⟨a, xs, tx, rfl, ha, g, al, sg, q, qn⟩ := h
    refine ⟨_, (pss_cons (ps_set (i := 2) sc_law_pack_of.nd rfl (Or.inl rfl) (pe_call G_law_priced_of hr (by rfl) D_law_priced_of.g D_law_priced_of.F.kp D_law_priced_of.b .nil pass0 (pa_cons (pv 1) pa_nil)))
  (pss_cons (ps_if (pt_cmpR op_isN (pv 2) pe_non (nomark _))
   (pss_one (ps_ret pe_non))
   pss_nil)
  (pss_cons (ps_set (i := 3) sc_law_pack_of.nd rfl (Or.inl rfl) (pe_call G_law_content_of hr (by rfl) D_law_content_of.g D_law_content_of.F.kp D_law_content_of.b .nil pass0 (pa_cons (pv 0) (pa_cons (pe_ix ix_tup (pv 2) pe_int (fun _ _ => rfl)) pa_nil))))
  (pss_cons (ps_if (PW.pt (pw_or (pt_cmpR op_isN (pv 3) pe_non (nomark _)) (pw_or1 (pt_cmpR op_eq (pe_callB (cr_sum rfl) (by rfl) M.sum (by decide +kernel) (pa_cons (pv 3) pa_nil)) pe_int (nomark _)))))
   (pss_one (ps_ret pe_non))
   pss_nil)
  (pss_one (ps_ret (pe_tup (pa_cons pe_str (pa_cons (pv 3) (pa_cons (pe_ix ix_tup (pv 2) pe_int (fun _ _ => rfl)) pa_nil)))))))))), ?_⟩
    refine ⟨_, rfl, tx, rfl, al, sg, fun u n H1 t pr ul us s1 nt ht => ?_, fun no H1 s1 => ?_⟩
    · refine ⟨_, rfl, rfl, false, rfl, ?_⟩
      have like : ∀ c p, ReadP xs tx c p → u = showM xs c ∧ numS n = numS p.toNat := fun c p h => pric_uniq pr ⟨h.1, by have h1 := h.2.2.1; have h2 := h.2.2.2; show p.toNat < 1000000000000; omega⟩
      refine ⟨_, rfl, _, rfl, t, _, _, _, rfl, rfl, SqT.of ht, atI_nat (j := 0) rfl, a, xs, u, rfl, s1 _ _ ha, g, by omega, us, fun c ec fc hb H2 b s2 nb hb2 => ?_, fun nc H2 s2 => ?_⟩
      · have nn : ∀ x ∈ c, 0 ≤ x := fun x hx => (fc.small x hx).1
        refine ⟨_, rfl, rfl, false, rfl, ?_⟩
        refine ⟨_, rfl, b, c, rfl, SqL.of hb2, rfl, _, rfl, ite2 (fun zs => ?_) (fun zs => ?_)⟩
        · have z0 : c.sum = 0 := V.int.inj (of_decide_eq_true zs)
          refine qn (fun c' p h => ?_) _ (s1.trans s2)
          have e := show_uniq g fc h.2.1.1 (ec.symm.trans (like c' p h).1)
          subst e
          obtain ⟨x, hx, hp⟩ := h.2.1.2.2
          have := zero_of_sum nn z0 x hx
          omega
        · have z0 : c.sum ≠ 0 := fun z => zs (decide_eq_true (congrArg V.int z))
          refine ⟨_, rfl, _, rfl, t, _, _, _, rfl, rfl, SqT.of (s2 _ _ ht), atI_nat (j := 1) rfl, ?_⟩
          refine ⟨by show 3 ≤ sizeLine; decide, fun v nv => ?_⟩
          have rp : ReadP xs tx c (n : Int) := ⟨by
            have e1 := pr.1
            rw [ec] at e1
            exact e1, ⟨fc, hb, some_of_sum nn z0⟩, by omega, by have := pr.2; omega⟩
          exact q c _ _ v b rp ((s1.trans s2).trans (same_upd nv)) (s1.free nb) ((s1.trans s2).free nv) upd_same ((same_upd nv) _ _ hb2)
      · refine ⟨_, rfl, rfl, true, rfl, ?_⟩
        exact qn (fun c p h => nc ⟨c, (like c p h).1, h.2.1.1, h.2.1.2.1⟩) _ (s1.trans s2)
    · refine ⟨_, rfl, rfl, true, rfl, ?_⟩
      exact qn (fun c p h => no (showM xs c) p.toNat ⟨h.1, by have h1 := h.2.2.1; have h2 := h.2.2.2; show p.toNat < 1000000000000; omega⟩) _ s1
end
/-! ### _law_many_of -/
abbrev s_law_many_of : Stmt := topS 43
abbrev N_law_many_of : List Str := ["_law_names_here", "_law_text", "_law_at", "_law_content_here", "_law_tiers_here", "_law_piece", "_law_priced"]
theorem sc_law_many_of : FnScope N_law_many_of ["_law_names_here", "_law_text"] (defScope s_law_many_of) := ⟨rfl, rfl, rfl, by decide +kernel, rfl, by decide +kernel, by decide +kernel⟩

/-- what is new of a heap -/
def freshH (H0 H : Hp) : Hp := fun a => match H0 a with
  | none => H a
  | some _ => none
theorem fresh_put {H0 H : Hp} {a : Addr} {o : HO} (n : H0 a = none) (h : H a = some o) : freshH H0 H a = some o := by
  unfold freshH
  rw [n]
  exact h
theorem fresh_get {H0 H : Hp} {a : Addr} {o : HO} (h : freshH H0 H a = some o) : H0 a = none ∧ H a = some o := by
  unfold freshH at h
  cases e : H0 a with
  | none =>
    rw [e] at h
    exact ⟨rfl, h⟩
  | some x =>
    rw [e] at h
    cases h
def sp_many_of : Sp := fun vs H Q _ => ∃ (a : Addr) (xs : List Str) (tx : Str), vs = [.ref a, .str tx] ∧ H a = some (LS xs) ∧ GoodN xs ∧ tx.length ≤ 90000 ∧ Signs tx ∧
  (∀ (c : List Int) (ts : List (Int × Int)), tx = showM xs c ++ (": " : Str) ++ tiersS ts → Goods xs c → FitT ts → ∀ H' v, Same H H' → OfrAt (freshH H H') v (.many c ts) → Q (.ref v) H') ∧
  ((∀ (c : List Int) (ts : List (Int × Int)), tx = showM xs c ++ (": " : Str) ++ tiersS ts → Goods xs c → FitT ts → False) → ∀ H', Same H H' → Q .non H')
section
variable {P : Program} {w : World} {K : PySem.W.Frag} {mg : Str → Option Value} {base : Heap}
theorem ok_many_of {f f1 f2 f3 : Addr} {fd fd1 fd2 fd3 : FuncData} {k : Nat} (M : Names mg) (D : Def K mg "_law_many_of" s_law_many_of ["_law_names_here", "_law_text"] f fd) (D_law_priced_of : Def K mg "_law_priced_of" s_law_priced_of ["_law_text"] f1 fd1) (G_law_priced_of : FnOk P w K mg base CX0 k f1 fd1 ["_law_text"] sp_priced_of)
    (D_law_content_of : Def K mg "_law_content_of" s_law_content_of ["_law_names_here", "_law_text"] f2 fd2) (G_law_content_of : FnOk P w K mg base CX0 k f2 fd2 ["_law_names_here", "_law_text"] sp_lcontent_of)
    (D_law_number_of : Def K mg "_law_number_of" s_law_number_of ["_law_text", "_law_most"] f3 fd3) (G_law_number_of : FnOk P w K mg base CX0 k f3 fd3 ["_law_text", "_law_most"] sp_number_of) : FnOk P w K mg base CX0 (k + 1) f fd ["_law_names_here", "_law_text"] sp_many_of := by
  refine D.F.ok sc_law_many_of (fun vs H Q E h => ?_) (fun cdv A outer s H vs Q E hr h => ?_)
  · obtain ⟨a, xs, tx, rfl, _⟩ := h
    rfl
  · obtain ⟨a, xs, tx, rfl, ha, g, al, sg, q, qn⟩ := h
    refine ⟨_, (pss_cons (ps_set (i := 2) sc_law_many_of.nd rfl (Or.inl rfl) (pe_m1 PySem.F.slot_str_find PySem.F.type_str_find mt_find (pv 1) pe_str))
  (pss_cons (ps_set (i := 3) sc_law_many_of.nd rfl (Or.inl rfl) (pe_call G_law_content_of hr (by rfl) D_law_content_of.g D_law_content_of.F.kp D_law_content_of.b .nil pass0 (pa_cons (pv 0) (pa_cons (pe_slice sl_str (pv 1) po_none (po_some (pe_callB (call_max2 rfl) (by rfl) M.max (by decide +kernel) (pa_cons (pv 2) (pa_cons pe_int pa_nil))))) pa_nil))))
  (pss_cons (ps_if (PW.pt (pw_or (pt_cmpR op_lt (pv 2) pe_int (nomark _)) (pw_or (pt_cmpR op_isN (pv 3) pe_non (nomark _)) (pw_or1 (pt_cmpR op_eq (pe_callB (cr_sum rfl) (by rfl) M.sum (by decide +kernel) (pa_cons (pv 3) pa_nil)) pe_int (nomark _))))))
   (pss_one (ps_ret pe_non))
   pss_nil)
  (pss_cons (ps_set (i := 4) sc_law_many_of.nd rfl (Or.inl rfl) (pe_lst pa_nil))
  (pss_cons (ps_for PassesOwn.never rfl (pi_list (pe_split (pe_slice sl_str (pv 1) (po_some (pe_op op_add (pv 2) pe_int)) po_none) pe_str)) (pg_name (i := 5) sc_law_many_of.nd rfl (Or.inl rfl))
   (pss_cons (ps_set (i := 6) sc_law_many_of.nd rfl (Or.inl rfl) (pe_call G_law_priced_of hr (by rfl) D_law_priced_of.g D_law_priced_of.F.kp D_law_priced_of.b .nil pass0 (pa_cons (pv 5) pa_nil)))
  (pss_cons (ps_if (PW.pt (pw_or (pt_cmpR op_isN (pv 6) pe_non (nomark _)) (pw_or1 (pt_cmpR op_isN (pe_call G_law_number_of hr (by rfl) D_law_number_of.g D_law_number_of.F.kp D_law_number_of.b .nil pass0 (pa_cons (pe_ix ix_tup (pv 6) pe_int (fun _ _ => rfl)) (pa_cons pe_int pa_nil))) pe_non (nomark _)))))
   (pss_one (ps_ret pe_non))
   pss_nil)
  (pss_one (ps_expr (pe_bm PySem.F.plainAttrs_list PySem.F.slot_list_append PySem.F.type_list_append mt_append (pv 4) (pa_cons (pe_tup (pa_cons (pe_callTy call_int_str (by rfl) M.int (by decide +kernel) (pa_cons (pe_ix ix_tup (pv 6) pe_int (fun _ _ => rfl)) pa_nil)) (pa_cons (pe_ix ix_tup (pv 6) pe_int (fun _ _ => rfl)) pa_nil))) pa_nil)))))))
  (pss_cons (ps_if (pt_cmpR op_gt (pe_callB call_len_seq (by rfl) M.len (by decide +kernel) (pa_cons (pv 4) pa_nil)) pe_int (nomark _))
   (pss_one (ps_ret pe_non))
   pss_nil)
  (pss_one (ps_ret (pe_tup (pa_cons pe_str (pa_cons (pv 3) (pa_cons (pv 4) pa_nil)))))))))))), ?_⟩
    have hy : TL.tl (": " : Str) ≠ [] := by rw [tl_colon]; exact fun z => nomatch z
    have alS : tx.length ≤ sizeLine := szL (by omega)
    refine ⟨_, rfl, ⟨_, rfl⟩, _, _, rfl, rfl, ?_⟩
    rcases find_ways (tx := tx) hy with ⟨i, ei, ct, er⟩ | ⟨ei, no⟩
    · rw [ei]
      have em : (if (0 : Int) > (i : Int) then (0 : Int) else (i : Int)) = (i : Int) := by rw [if_neg (by omega)]
      have e2 : (i : Int) + 2 = ((i + (": " : Str).length : Nat) : Int) := by rw [colon_len]; rfl
      have sum := ct.sum
      generalize hu : cutS tx none (some (i : Int)) = u at er sum
      generalize hv : cutS tx (some ((i + (": " : Str).length : Nat) : Int)) none = v at er sum
      have ls : u.length + 2 + v.length = tx.length := by
        rw [sum, str_len_app, str_len_app, colon_len]
      have su : Signs u := by rw [← hu]; exact cutS_signs sg _ _
      have sv : Signs v := by rw [← hv]; exact cutS_signs sg _ _
      have like : ∀ (c : List Int) (ts : List (Int × Int)), tx = showM xs c ++ (": " : Str) ++ tiersS ts → u = showM xs c ∧ v = tiersS ts := fun c ts e => by
        have e3 := er.symm.trans ((congrArg (fun z => Txt.partition z (": " : Str)) e).trans (many_part g c (tiersS ts)))
        injection e3 with e4 e5
        injection e5 with _ e5
        exact ⟨e4, e5⟩
      refine ⟨_, rfl, _, rfl, _, rfl, _, _, rfl, _, rfl, tx, rfl, alS, ?_⟩
      rw [em, hu]
      refine ⟨a, xs, u, rfl, ha, g, by omega, su, fun c ec fc hb H1 b s1 nb hb1 => ?_, fun nc H1 s1 => ?_⟩
      · have nn : ∀ x ∈ c, 0 ≤ x := fun x hx => (fc.small x hx).1
        refine ⟨_, rfl, _, _, rfl, rfl, false, congrArg V.bl (decide_eq_false (by omega)), _, rfl, rfl, false, rfl, ?_⟩
        refine ⟨_, rfl, b, c, rfl, SqL.of hb1, rfl, _, rfl, ite2 (fun zs => ?_) (fun zs => ?_)⟩
        · have z0 : c.sum = 0 := V.int.inj (of_decide_eq_true zs)
          refine qn (fun c' ts e gs _ => ?_) _ s1
          have e := show_uniq g fc gs.1 (ec.symm.trans (like c' ts e).1)
          subst e
          obtain ⟨x, hx, hp⟩ := gs.2.2
          have := zero_of_sum nn z0 x hx
          omega
        · have z0 : c.sum ≠ 0 := fun z => zs (decide_eq_true (congrArg V.int z))
          have gs : Goods xs c := ⟨fc, hb, some_of_sum nn z0⟩
          refine ⟨Nat.zero_le _, fun B nB => ?_⟩
          have s2 := s1.trans (same_upd (o := .lst []) nB)
          have hb2 := (same_upd (o := .lst []) nB) _ _ hb1
          have hB : upd H1 B (.lst []) B = some (.lst []) := upd_same
          have nB0 := s1.free nB
          have nBb : b ≠ B := fun e => by rw [e] at hb1; rw [hb1] at nB; cases nB
          generalize upd H1 B (.lst []) = H2 at s2 hb2 hB ⊢
          refine ⟨_, rfl, _, rfl, _, _, rfl, rfl, _, rfl, tx, rfl, alS, ?_⟩
          rw [e2, hv]
          refine ⟨⟨_, rfl⟩, _, _, rfl, rfl, by decide +kernel, szL (by omega), fun L nL => ?_⟩
          have sl : ∀ p ∈ Txt.split v (", " : Str), p.length ≤ v.length ∧ Signs p := fun p hp => ⟨split_len hp, split_signs sv hp⟩
          have jn : Str.join (", " : Str) (Txt.split v (", " : Str)) = v := StrLaws.join_split v (", " : Str)
          have ppne := split_some v
          have ppm := split_many (a := v) (y := (", " : Str)) (by decide +kernel)
          have spl : ∀ ts : List (Int × Int), v = tiersS ts → FitT ts → Txt.split v (", " : Str) = ts.map tierS := fun ts e ft => by rw [e]; exact tiers_split (fun z => by have := ft.pos; rw [z] at this; exact absurd this (by decide))
          generalize Txt.split v (", " : Str) = pp at sl jn ppne ppm spl ⊢
          have hL : upd H2 L (.lst (pp.map V.str)) L = some (LS pp) := upd_same
          have s3 := s2.trans (same_upd (o := .lst (pp.map V.str)) nL)
          have hb3 := (same_upd (o := .lst (pp.map V.str)) nL) _ _ hb2
          have hB3 := (same_upd (o := .lst (pp.map V.str)) nL) _ _ hB
          have neLB : L ≠ B := fun e => by rw [e, hB] at nL; cases nL
          generalize upd H2 L (.lst (pp.map V.str)) = H3 at hL s3 hb3 hB3 ⊢
          refine ⟨L, rfl, ⟨_, SqL.of hL⟩, for_list (xs := pp.map V.str) (fun j σ H' => ∃ (y5 y6 : Option V) (us : List Addr) (ts : List (Int × Int)), σ = [some (.ref a), some (.str tx), some (.int (i : Nat)), some (.ref b), some (.ref B), y5, y6] ∧ Same H H' ∧ H' L = some (LS pp) ∧ H' b = some (LI c) ∧ H' B = some (.lst (us.map V.ref)) ∧ us.length = j ∧ pp.take j = ts.map tierS ∧ (∀ t ∈ ts, 0 ≤ t.1 ∧ t.1 ≤ 99 ∧ 0 ≤ t.2 ∧ t.2 < 1000000000000) ∧ ∀ (k : Nat) u (tt : Int × Int), us[k]? = some u → ts[k]? = some tt → H' u = some (.tup [.int tt.1, .int tt.2]) ∧ H u = none) ⟨none, none, [], [], rfl, s3, hL, hb3, hB3, rfl, rfl, fun t h => (by cases h), fun j u tt h => by simp at h⟩ (fun j σ H' _ hp => ?_) (fun j x σ H4 hx hp => ?_) (fun σ H4 hp => ?_)⟩
          · obtain ⟨_, _, _, _, _, _, h, _⟩ := hp
            exact SqL.of h
          · obtain ⟨y5, y6, us, ts, rfl, s4, hL4, hb4, hB4, hlu, ets, fts, hus⟩ := hp
            obtain ⟨p, hp, rfl⟩ := of_get_strs hx
            obtain ⟨pl, psg⟩ := sl p (List.mem_of_getElem? hp)
            have hj := (List.getElem?_eq_some_iff.mp hp).1
            have lts : ts.length = j := by
              have := congrArg List.length ets
              rw [List.length_take, List.length_map] at this
              omega
            have tier : ∀ (c' : List Int) (ts' : List (Int × Int)), tx = showM xs c' ++ (": " : Str) ++ tiersS ts' → FitT ts' → ∃ t : Int × Int, p = tierS t ∧ 0 ≤ t.1 ∧ t.1 ≤ 99 ∧ 0 ≤ t.2 ∧ t.2 < 1000000000000 := fun c' ts' e ft => by
              have e2 := spl ts' (like c' ts' e).2 ft
              rw [e2, List.getElem?_map] at hp
              obtain ⟨t, h1, h2⟩ := Option.map_eq_some_iff.mp hp
              exact ⟨t, h2.symm, ft.each t (List.mem_of_getElem? h1)⟩
            refine ⟨_, rfl, p, rfl, by omega, psg, fun w n H5 r pr wl wsg s5 nr hr5 => ?_, fun none_ H5 s5 => ?_⟩
            · have like2 : ∀ t : Int × Int, p = tierS t → 0 ≤ t.2 → t.2 < 1000000000000 → w = numS t.1.toNat := fun t e h1 h2 => (pric_uniq pr ⟨e, by show t.2.toNat < 1000000000000; omega⟩).1
              refine ⟨_, rfl, rfl, false, rfl, ?_⟩
              refine ⟨_, rfl, r, _, _, _, rfl, rfl, SqT.of hr5, atI_nat (j := 0) rfl, w, 2, rfl, by omega, wsg, by decide, by decide, fun m H6 em hm s6 => ?_, fun nn2 H6 s6 => ?_⟩
              · refine ⟨rfl, false, rfl, ?_⟩
                have hr6 := s6 _ _ hr5
                have hB6 := s6 _ _ (s5 _ _ hB4)
                have hL6 := s6 _ _ (s5 _ _ hL4)
                have hb6 := s6 _ _ (s5 _ _ hb4)
                have s7 := (s4.trans s5).trans s6
                have pn := pr.2
                refine ⟨_, rfl, .inl ⟨rfl, _, SqL.of hB6⟩, _, rfl, r, _, _, _, rfl, rfl, SqT.of hr6, atI_nat (j := 0) rfl, w, (m : Int), rfl, ?_⟩
                have l2 := TL.numL_len (n := m) (k := 2) (by decide) hm
                have l3 := numS_len m
                refine ⟨by rw [em]; exact TL.int_num (by omega), by rw [em]; omega, ?_⟩
                refine ⟨_, rfl, r, _, _, _, rfl, rfl, SqT.of hr6, atI_nat (j := 1) rfl, by show 2 ≤ sizeLine; decide, fun u nu => ?_⟩
                have neuB : u ≠ B := fun e => by rw [e, hB6] at nu; cases nu
                refine ⟨B, _, _, rfl, rfl, (same_upd nu) _ _ hB6, szL' (by rw [List.length_map]; omega), ?_⟩
                refine ⟨_, _, us ++ [u], ts ++ [((m : Int), (n : Int))], rfl, sm_new (s7.trans (same_upd nu)) nB0, ?_, ?_, ?_, by rw [List.length_append, hlu]; rfl, ?_, fun t ht => ?_, fun k u' t' h1 h2 => ?_⟩
                · rw [upd_ne neLB]
                  exact (same_upd nu) _ _ hL6
                · rw [upd_ne nBb]
                  exact (same_upd nu) _ _ hb6
                · rw [upd_same, List.map_append]
                  rfl
                · rw [take_succ_at hp, ets, List.map_append, pr.1, em]
                  rfl
                · rcases List.mem_append.mp ht with ht | ht
                  · exact fts t ht
                  · rw [List.mem_singleton.mp ht]
                    exact ⟨by show (0 : Int) ≤ (m : Int); omega, by show (m : Int) ≤ 99; omega, by show (0 : Int) ≤ (n : Int); omega, by show (n : Int) < 1000000000000; omega⟩
                · by_cases hk : k < us.length
                  · rw [List.getElem?_append_left hk] at h1
                    rw [List.getElem?_append_left (by omega)] at h2
                    have h3 := (same_upd (o := .tup [.int (m : Nat), .int (n : Nat)]) nu) _ _ (s6 _ _ (s5 _ _ (hus k u' t' h1 h2).1))
                    have hBu := (same_upd (o := .tup [.int (m : Nat), .int (n : Nat)]) nu) _ _ hB6
                    rw [upd_ne (ne_of h3 hBu (fun z => nomatch z))]
                    exact ⟨h3, (hus k u' t' h1 h2).2⟩
                  · have hk2 : k = us.length := by
                      have := (List.getElem?_eq_some_iff.mp h1).1
                      rw [List.length_append, List.length_singleton] at this
                      omega
                    subst hk2
                    rw [List.getElem?_append_right (Nat.le_refl _), Nat.sub_self] at h1
                    cases Option.some.inj h1
                    rw [hlu, ← lts, List.getElem?_append_right (Nat.le_refl _), Nat.sub_self] at h2
                    cases Option.some.inj h2
                    rw [upd_ne neuB]
                    exact ⟨upd_same, s7.free nu⟩
              · refine ⟨rfl, true, rfl, ?_⟩
                exact qn (fun c' ts' e _ ft => by
                  obtain ⟨t, e1, t1, t2, t3, t4⟩ := tier c' ts' e ft
                  exact nn2 ⟨t.1.toNat, like2 t e1 t3 t4, by omega⟩) _ ((s4.trans s5).trans s6)
            · refine ⟨_, rfl, rfl, true, rfl, ?_⟩
              exact qn (fun c' ts' e _ ft => by
                obtain ⟨t, e1, t1, t2, t3, t4⟩ := tier c' ts' e ft
                exact none_ (numS t.1.toNat) t.2.toNat ⟨e1, by show t.2.toNat < 1000000000000; omega⟩) _ (s4.trans s5)
          · obtain ⟨y5, y6, us, ts, rfl, s4, hL4, hb4, hB4, hlu, ets, fts, hus⟩ := hp
            rw [List.length_map] at hlu ets
            rw [List.take_length] at ets
            have lts : ts.length = pp.length := by rw [ets, List.length_map]
            have tpos : 1 ≤ ts.length := List.length_pos_iff.mpr fun z => ppne (by rw [ets, z]; rfl)
            have ev : v = tiersS ts := by rw [← jn, ets]; rfl
            refine ⟨_, rfl, B, _, rfl, .inl (SqL.of hB4), _, _, rfl, rfl, ?_⟩
            by_cases few : us.length ≤ 4
            · refine ⟨false, by rw [List.length_map]; exact congrArg V.bl (decide_eq_false (by omega)), ?_⟩
              refine ⟨_, rfl, _, rfl, by show 3 ≤ sizeLine; decide, fun r nr => ?_⟩
              refine q c ts ?_ gs ⟨tpos, by omega, fts⟩ _ r (s4.trans (same_upd nr)) ⟨b, B, fresh_put (s4.free nr) upd_same, fresh_put nb ((same_upd nr) _ _ hb4), us, fresh_put nB0 ((same_upd nr) _ _ hB4), by omega, fun k u tt h1 h2 => fresh_put (hus k u tt h1 h2).2 ((same_upd nr) _ _ (hus k u tt h1 h2).1)⟩
              rw [sum, ec, ev]
            · refine ⟨true, by rw [List.length_map]; exact congrArg V.bl (decide_eq_true (by omega)), ?_⟩
              refine qn (fun c' ts' e _ ft => few ?_) _ s4
              have e2 := spl ts' (like c' ts' e).2 ft
              have := congrArg List.length e2
              rw [List.length_map] at this
              have := ft.few
              omega
      · refine ⟨_, rfl, _, _, rfl, rfl, false, congrArg V.bl (decide_eq_false (by omega)), _, rfl, rfl, true, rfl, ?_⟩
        exact qn (fun c ts e gs _ => nc ⟨c, (like c ts e).1, gs.1, gs.2.1⟩) _ s1
    · rw [ei]
      refine ⟨_, rfl, _, rfl, _, rfl, _, _, rfl, _, rfl, tx, rfl, alS, ?_⟩
      refine ⟨a, xs, _, rfl, ha, g, Nat.le_trans (cutS_length _ _ _) al, cutS_signs sg _ _, fun c ec fc hb H1 b s1 nb hb1 => ?_, fun nc H1 s1 => ?_⟩
      · exact ⟨_, rfl, _, _, rfl, rfl, true, by decide +kernel, qn (fun c' ts e _ _ => no _ _ e) _ s1⟩
      · exact ⟨_, rfl, _, _, rfl, rfl, true, by decide +kernel, qn (fun c' ts e _ _ => no _ _ e) _ s1⟩
end
/-! ### _law_offer_of -/
abbrev s_law_offer_of : Stmt := topS 44
abbrev N_law_offer_of : List Str := ["_law_names_here", "_law_text", "_law_at", "_law_place", "_law_found"]
theorem sc_law_offer_of : FnScope N_law_offer_of ["_law_names_here", "_law_text"] (defScope s_law_offer_of) := ⟨rfl, rfl, rfl, by decide +kernel, rfl, by decide +kernel, by decide +kernel⟩

theorem head5 {tx y : Str} (hy : y.length = 5) (h : cutS tx none (some 5) = y) : tx = y ++ cutS tx (some 5) none := by
  by_cases l5 : 5 ≤ tx.length
  · refine TL.ext_tl ?_
    have e1 := cutS_take tx l5
    have e2 := cutS_drop tx l5
    rw [TL.tl_append, ← h]
    refine Eq.trans ?_ (congr (congrArg HAppend.hAppend e1.symm) e2.symm)
    exact (List.take_append_drop 5 _).symm
  · have := cutS_length tx none (some 5)
    rw [h, hy] at this
    omega
theorem app5 {y b : Str} (hy : y.length = 5) : cutS (y ++ b) none (some 5) = y ∧ cutS (y ++ b) (some 5) none = b := by
  have l5 : 5 ≤ (y ++ b).length := by rw [str_len_app, hy]; omega
  have ly : (TL.tl y).length = 5 := by rw [← TL.len_tl, hy]
  constructor
  · refine TL.ext_tl ((cutS_take _ l5).trans ?_)
    rw [TL.tl_append]
    exact List.take_left' ly
  · refine TL.ext_tl ((cutS_drop _ l5).trans ?_)
    rw [TL.tl_append]
    exact List.drop_left' ly
theorem five_other {c : List Int} {p : Int} {xs : List Str} (gs : Goods xs c) {y : Str} {d : Nat} {r : List Nat} (hy : TL.tl y = d :: r) (hd : 57 < d) (b : Str) : soldS xs c p ≠ y ++ b := fun e => by
  obtain ⟨z, q, e1, h1, h2⟩ := gs.head
  have e2 := congrArg TL.tl e
  unfold soldS at e2
  rw [TL.tl_append, TL.tl_append, TL.tl_append, e1, hy, List.append_assoc, List.cons_append, List.cons_append] at e2
  have := (List.cons.inj e2).1
  omega
/-- what a text's first five signs say of the offer -/
theorem read_many_word {xs : List Str} {b : Str} {o : Ofr} (h : ("many " : Str) ++ b = offerS xs o) (r : ReadO xs o) : ∃ c ts, o = .many c ts ∧ b = showM xs c ++ (": " : Str) ++ tiersS ts := by
  match o, h, r with
  | .pack c p, h, r => exact absurd h.symm (five_other r.2 tl_manyW (by decide) b)
  | .many c ts, h, r => exact ⟨c, ts, rfl, TL.ext_tl (List.append_cancel_left (by have := congrArg TL.tl h; exact (TL.tl_append _ _).symm.trans (this.trans (TL.tl_append _ _))))⟩
  | .add c p k, h, r =>
    have e := congrArg TL.tl h
    unfold offerS at e
    rw [TL.tl_append, TL.tl_append, tl_manyW, tl_withW] at e
    exact absurd (List.cons.inj e).1 (by decide)
theorem read_with_word {xs : List Str} {b : Str} {o : Ofr} (h : ("with " : Str) ++ b = offerS xs o) (r : ReadO xs o) : ∃ c p k, o = .add c p k ∧ b = numS k.toNat ++ (": " : Str) ++ soldS xs c p := by
  match o, h, r with
  | .pack c p, h, r => exact absurd h.symm (five_other r.2 tl_withW (by decide) b)
  | .add c p k, h, r => exact ⟨c, p, k, rfl, TL.ext_tl (List.append_cancel_left (by have := congrArg TL.tl h; exact (TL.tl_append _ _).symm.trans (this.trans (TL.tl_append _ _))))⟩
  | .many c ts, h, r =>
    have e := congrArg TL.tl h
    unfold offerS at e
    rw [TL.tl_append, TL.tl_append, tl_manyW, tl_withW] at e
    exact absurd (List.cons.inj e).1 (by decide)
theorem with_cut {tx b : Str} {i : Nat} (et : tx = ("with " : Str) ++ b) (ct : CutAt tx (": " : Str) i) : 5 ≤ i ∧ cutS tx none (some (i : Int)) = ("with " : Str) ++ cutS tx (some 5) (some (i : Int)) := by
  have le : i ≤ tx.length := by have := ct.le; omega
  have e1 := cutS_take tx le
  have sum := congrArg TL.tl ct.sum
  rw [TL.tl_append, TL.tl_append, e1, tl_colon] at sum
  have e0 : TL.tl tx = [119, 105, 116, 104, 32] ++ TL.tl b := by rw [et, TL.tl_append, tl_withW]
  have ln : ((TL.tl tx).take i).length = i := by rw [List.length_take, ← TL.len_tl]; omega
  have h : (TL.tl tx)[i]? = some 58 := by
    rw [sum, List.append_assoc, List.getElem?_append_right (by omega), ln, Nat.sub_self]
    rfl
  rw [e0] at h
  have i5 : 5 ≤ i := by
    match i, h with
    | 0, h => exact absurd (Option.some.inj h) (by decide)
    | 1, h => exact absurd (Option.some.inj h) (by decide)
    | 2, h => exact absurd (Option.some.inj h) (by decide)
    | 3, h => exact absurd (Option.some.inj h) (by decide)
    | 4, h => exact absurd (Option.some.inj h) (by decide)
    | n + 5, _ => omega
  refine ⟨i5, TL.ext_tl ?_⟩
  have l5 : 5 ≤ tx.length := by omega
  have e2 := cutS_mid tx l5 le
  rw [e1, TL.tl_append]
  refine Eq.trans ?_ (congrArg (TL.tl ("with " : Str) ++ ·) e2.symm)
  obtain ⟨j, rfl⟩ : ∃ j, i = 5 + j := ⟨i - 5, by omega⟩
  rw [e0, tl_withW, show 5 + j - 5 = j by omega]
  show ([119, 105, 116, 104, 32] ++ TL.tl b).take (5 + j) = [119, 105, 116, 104, 32] ++ (([119, 105, 116, 104, 32] ++ TL.tl b).drop 5).take j
  rw [List.take_append, List.take_of_length_le (by show 5 ≤ 5 + j; omega)]
  congr 2
  show 5 + j - 5 = j
  omega
def sp_offer_of : Sp := fun vs H Q _ => ∃ (a : Addr) (xs : List Str) (tx : Str), vs = [.ref a, .str tx] ∧ H a = some (LS xs) ∧ GoodN xs ∧ tx.length ≤ 90000 ∧ Signs tx ∧
  (∀ o, tx = offerS xs o → ReadO xs o → ∀ H' v, Same H H' → OfrAt (freshH H H') v o → Q (.ref v) H') ∧ (¬ ReadR xs tx → ∀ H', Same H H' → Q .non H')
section
variable {P : Program} {w : World} {K : PySem.W.Frag} {mg : Str → Option Value} {base : Heap}
theorem ok_offer_of {f f1 f2 f3 : Addr} {fd fd1 fd2 fd3 : FuncData} {k : Nat} (M : Names mg) (D : Def K mg "_law_offer_of" s_law_offer_of ["_law_names_here", "_law_text"] f fd) (D_law_many_of : Def K mg "_law_many_of" s_law_many_of ["_law_names_here", "_law_text"] f1 fd1) (G_law_many_of : FnOk P w K mg base CX0 k f1 fd1 ["_law_names_here", "_law_text"] sp_many_of)
    (D_law_pack_of : Def K mg "_law_pack_of" s_law_pack_of ["_law_names_here", "_law_text"] f2 fd2) (G_law_pack_of : FnOk P w K mg base CX0 k f2 fd2 ["_law_names_here", "_law_text"] sp_pack_of)
    (D_law_number_of : Def K mg "_law_number_of" s_law_number_of ["_law_text", "_law_most"] f3 fd3) (G_law_number_of : FnOk P w K mg base CX0 k f3 fd3 ["_law_text", "_law_most"] sp_number_of) : FnOk P w K mg base CX0 (k + 1) f fd ["_law_names_here", "_law_text"] sp_offer_of := by
  refine D.F.ok sc_law_offer_of (fun vs H Q E h => ?_) (fun cdv A outer s H vs Q E hr h => ?_)
  · obtain ⟨a, xs, tx, rfl, _⟩ := h
    rfl
  · obtain ⟨a, xs, tx, rfl, ha, g, al, sg, q, qn⟩ := h
    refine ⟨_, (pss_cons (ps_if (pt_cmpR op_eq (pe_slice sl_str (pv 1) po_none (po_some pe_int)) pe_str (nomark _))
   (pss_one (ps_ret (pe_call G_law_many_of hr (by rfl) D_law_many_of.g D_law_many_of.F.kp D_law_many_of.b .nil pass0 (pa_cons (pv 0) (pa_cons (pe_slice sl_str (pv 1) (po_some pe_int) po_none) pa_nil)))))
   pss_nil)
  (pss_cons (ps_if (pt_cmpR op_ne (pe_slice sl_str (pv 1) po_none (po_some pe_int)) pe_str (nomark _))
   (pss_one (ps_ret (pe_call G_law_pack_of hr (by rfl) D_law_pack_of.g D_law_pack_of.F.kp D_law_pack_of.b .nil pass0 (pa_cons (pv 0) (pa_cons (pv 1) pa_nil)))))
   pss_nil)
  (pss_cons (ps_set (i := 2) sc_law_offer_of.nd rfl (Or.inl rfl) (pe_m1 PySem.F.slot_str_find PySem.F.type_str_find mt_find (pv 1) pe_str))
  (pss_cons (ps_set (i := 3) sc_law_offer_of.nd rfl (Or.inl rfl) (pe_call G_law_number_of hr (by rfl) D_law_number_of.g D_law_number_of.F.kp D_law_number_of.b .nil pass0 (pa_cons (pe_slice sl_str (pv 1) (po_some pe_int) (po_some (pe_callB (call_max2 rfl) (by rfl) M.max (by decide +kernel) (pa_cons (pv 2) (pa_cons pe_int pa_nil))))) (pa_cons pe_int pa_nil))))
  (pss_cons (ps_set (i := 4) sc_law_offer_of.nd rfl (Or.inl rfl) (pe_call G_law_pack_of hr (by rfl) D_law_pack_of.g D_law_pack_of.F.kp D_law_pack_of.b .nil pass0 (pa_cons (pv 0) (pa_cons (pe_slice sl_str (pv 1) (po_some (pe_op op_add (pv 2) pe_int)) po_none) pa_nil))))
  (pss_cons (ps_if (PW.pt (pw_or (pt_cmpR op_lt (pv 2) pe_int (nomark _)) (pw_or (pt_cmpR op_isN (pv 3) pe_non (nomark _)) (pw_or1 (pt_cmpR op_isN (pv 4) pe_non (nomark _))))))
   (pss_one (ps_ret pe_non))
   pss_nil)
  (pss_one (ps_ret (pe_tup (pa_cons pe_str (pa_cons (pe_ix ix_tup (pv 4) pe_int (fun _ _ => rfl)) (pa_cons (pe_ix ix_tup (pv 4) pe_int (fun _ _ => rfl)) (pa_cons (pv 3) pa_nil))))))))))))), ?_⟩
    have hy : TL.tl (": " : Str) ≠ [] := by rw [tl_colon]; exact fun z => nomatch z
    have alS : tx.length ≤ sizeLine := szL (by omega)
    have cl : ∀ x y, (cutS tx x y).length ≤ 90000 := fun x y => Nat.le_trans (cutS_length _ _ _) al
    have cs : ∀ x y, Signs (cutS tx x y) := fun x y => cutS_signs sg _ _
    by_cases m1 : cutS tx none (some 5) = ("many " : Str)
    · have et := head5 word5_len.1 m1
      refine ⟨_, rfl, _, rfl, tx, rfl, alS, rfl, true, congrArg V.bl (decide_eq_true (congrArg V.str m1)), ?_⟩
      refine ⟨_, rfl, _, rfl, _, rfl, tx, rfl, alS, a, xs, _, rfl, ha, g, cl _ _, cs _ _, fun c ts e gs ft H1 v s1 ov => ?_, fun no H1 s1 => ?_⟩
      · exact q (.many c ts) (et.trans (by rw [e]; rfl)) ⟨⟨gs.1, ft⟩, gs⟩ _ _ s1 ov
      · refine qn (fun ⟨o, e, r⟩ => ?_) _ s1
        obtain ⟨c, ts, rfl, e2⟩ := read_many_word (et.symm.trans e) r
        exact no c ts e2 r.2 r.1.2
    refine ⟨_, rfl, _, rfl, tx, rfl, alS, rfl, false, congrArg V.bl (decide_eq_false fun z => m1 (V.str.inj z)), ?_⟩
    by_cases m2 : cutS tx none (some 5) = ("with " : Str)
    · have et := head5 word5_len.2 m2
      refine ⟨_, rfl, _, rfl, tx, rfl, alS, rfl, false, ?_, ?_⟩
      · show V.bl (!decide (V.str (cutS tx none (some 5)) = V.str ("with " : Str))) = V.bl false
        rw [decide_eq_true (congrArg V.str m2)]
        rfl
      change ∃ x, _
      refine ⟨_, rfl, ⟨_, rfl⟩, _, _, rfl, rfl, ?_⟩
      rcases find_ways (tx := tx) hy with ⟨i, ei, ct, er⟩ | ⟨ei, no⟩
      · rw [ei]
        obtain ⟨i5, eu⟩ := with_cut et ct
        have em : (if (5 : Int) > (i : Int) then (5 : Int) else (i : Int)) = (i : Int) := by rw [if_neg (by omega)]
        have e2 : (i : Int) + 2 = ((i + (": " : Str).length : Nat) : Int) := by rw [colon_len]; rfl
        have sum := ct.sum
        refine ⟨_, rfl, _, rfl, _, rfl, _, _, rfl, _, rfl, ?_⟩
        refine ⟨tx, rfl, alS, ?_⟩
        rw [em]
        have cm := cl (some 5) (some (i : Int))
        have sm := cs (some 5) (some (i : Int))
        have cv := cl (some ((i + (": " : Str).length : Nat) : Int)) none
        have sv := cs (some ((i + (": " : Str).length : Nat) : Int)) none
        generalize cutS tx (some 5) (some (i : Int)) = m at eu cm sm ⊢
        generalize hv : cutS tx (some ((i + (": " : Str).length : Nat) : Int)) none = v at sum er cv sv
        have like : ∀ o, tx = offerS xs o → ReadO xs o → ∃ c p k, o = .add c p k ∧ m = numS k.toNat ∧ v = soldS xs c p := fun o e r => by
          obtain ⟨c, p, k, rfl, _⟩ := read_with_word (et.symm.trans e) r
          refine ⟨c, p, k, rfl, ?_⟩
          have e3 : tx = (("with " : Str) ++ numS k.toNat) ++ (": " : Str) ++ soldS xs c p := by rw [e]; exact TL.ext_tl (by unfold offerS; simp only [TL.tl_append, List.append_assoc])
          have fr : 58 ∉ TL.tl (("with " : Str) ++ numS k.toNat) := by
            rw [TL.tl_append, tl_withW, tl_numS]
            intro z
            rcases List.mem_append.mp z with z | z
            · exact absurd z (by decide)
            · exact TL.numL_free (by decide) z
          have e4 := er.symm.trans ((congrArg (fun z => Txt.partition z (": " : Str)) e3).trans (TL.partition_app tl_colon fr))
          injection e4 with e4 e5
          injection e5 with _ e5
          rw [eu] at e4
          exact ⟨TL.ext_tl (List.append_cancel_left (by have := congrArg TL.tl e4; exact (TL.tl_append _ _).symm.trans (this.trans (TL.tl_append _ _)))), e5⟩
        refine ⟨m, 2, rfl, cm, sm, by decide, by decide, fun n H1 en hn s1 => ?_, fun nr H1 s1 => ?_⟩
        · refine ⟨_, rfl, _, rfl, _, rfl, _, _, rfl, rfl, _, rfl, tx, rfl, alS, ?_⟩
          rw [e2, hv]
          refine ⟨a, xs, v, rfl, s1 _ _ ha, g, cv, sv, fun c p H2 r b rp s2 nb nr2 hr2 hb => ?_, fun nn H2 s2 => ?_⟩
          · refine ⟨_, rfl, _, _, rfl, rfl, false, congrArg V.bl (decide_eq_false (by omega)), _, rfl, rfl, false, rfl, _, rfl, rfl, false, rfl, ?_⟩
            refine ⟨_, rfl, r, _, _, _, rfl, rfl, SqT.of hr2, atI_nat (j := 1) rfl, _, rfl, r, _, _, _, rfl, rfl, SqT.of hr2, atI_nat (j := 2) rfl, _, rfl, by show 4 ≤ sizeLine; decide, fun z nz => ?_⟩
            refine q (.add c p (n : Int)) ?_ ⟨⟨rp.2.1.1, rp.2.2.1, rp.2.2.2, by omega, by omega⟩, rp.2.1⟩ _ z ((s1.trans s2).trans (same_upd nz)) ⟨b, fresh_put ((s1.trans s2).free nz) upd_same, fresh_put (s1.free nb) ((same_upd nz) _ _ hb)⟩
            rw [sum, eu, en, rp.1]
            exact TL.ext_tl (by unfold offerS; simp only [TL.tl_append, List.append_assoc, Int.toNat_natCast])
          · refine ⟨_, rfl, _, _, rfl, rfl, false, congrArg V.bl (decide_eq_false (by omega)), _, rfl, rfl, false, rfl, _, rfl, rfl, true, rfl, ?_⟩
            refine qn (fun ⟨o, e, r⟩ => ?_) _ (s1.trans s2)
            obtain ⟨c, p, k, rfl, _, e2⟩ := like o e r
            exact nn c p ⟨e2, r.2, r.1.2.1, r.1.2.2.1⟩
        · refine ⟨_, rfl, _, rfl, _, rfl, _, _, rfl, rfl, _, rfl, tx, rfl, alS, ?_⟩
          rw [e2, hv]
          have out : ¬ ReadR xs tx := fun ⟨o, e, r⟩ => by
            obtain ⟨c, p, k, rfl, e1, _⟩ := like o e r
            exact nr ⟨k.toNat, e1, by have := r.1.2.2.2.1; have := r.1.2.2.2.2; omega⟩
          refine ⟨a, xs, v, rfl, s1 _ _ ha, g, cv, sv, fun c p H2 r b rp s2 nb nr2 hr2 hb => ?_, fun nn H2 s2 => ?_⟩
          · exact ⟨_, rfl, _, _, rfl, rfl, false, congrArg V.bl (decide_eq_false (by omega)), _, rfl, rfl, true, rfl, qn out _ (s1.trans s2)⟩
          · exact ⟨_, rfl, _, _, rfl, rfl, false, congrArg V.bl (decide_eq_false (by omega)), _, rfl, rfl, true, rfl, qn out _ (s1.trans s2)⟩
      · rw [ei]
        have out : ¬ ReadR xs tx := fun ⟨o, e, r⟩ => by
          obtain ⟨c, p, k, rfl, _⟩ := read_with_word (et.symm.trans e) r
          refine no (("with " : Str) ++ numS k.toNat) (soldS xs c p) ?_
          rw [e]
          exact TL.ext_tl (by unfold offerS; simp only [TL.tl_append, List.append_assoc])
        refine ⟨_, rfl, _, rfl, _, rfl, _, _, rfl, _, rfl, ?_⟩
        refine ⟨tx, rfl, alS, ?_⟩
        refine ⟨_, 2, rfl, cl _ _, cs _ _, by decide, by decide, fun n H1 en hn s1 => ?_, fun nr H1 s1 => ?_⟩
        · refine ⟨_, rfl, _, rfl, _, rfl, _, _, rfl, rfl, _, rfl, tx, rfl, alS, ?_⟩
          refine ⟨a, xs, _, rfl, s1 _ _ ha, g, cl _ _, cs _ _, fun c p H2 r b rp s2 nb nr2 hr2 hb => ?_, fun nn H2 s2 => ?_⟩
          · exact ⟨_, rfl, _, _, rfl, rfl, true, by decide +kernel, qn out _ (s1.trans s2)⟩
          · exact ⟨_, rfl, _, _, rfl, rfl, true, by decide +kernel, qn out _ (s1.trans s2)⟩
        · refine ⟨_, rfl, _, rfl, _, rfl, _, _, rfl, rfl, _, rfl, tx, rfl, alS, ?_⟩
          refine ⟨a, xs, _, rfl, s1 _ _ ha, g, cl _ _, cs _ _, fun c p H2 r b rp s2 nb nr2 hr2 hb => ?_, fun nn H2 s2 => ?_⟩
          · exact ⟨_, rfl, _, _, rfl, rfl, true, by decide +kernel, qn out _ (s1.trans s2)⟩
          · exact ⟨_, rfl, _, _, rfl, rfl, true, by decide +kernel, qn out _ (s1.trans s2)⟩
    · refine ⟨_, rfl, _, rfl, tx, rfl, alS, rfl, true, ?_, ?_⟩
      · show V.bl (!decide (V.str (cutS tx none (some 5)) = V.str ("with " : Str))) = V.bl true
        rw [decide_eq_false fun z => m2 (V.str.inj z)]
        rfl
      refine ⟨_, rfl, _, rfl, a, xs, tx, rfl, ha, g, al, sg, fun c p H1 v b rp s1 nb nv hv hb => ?_, fun no H1 s1 => ?_⟩
      · exact q (.pack c p) rp.1 ⟨⟨rp.2.1.1, rp.2.2⟩, rp.2.1⟩ _ _ s1 ⟨b, fresh_put nv hv, fresh_put nb hb⟩
      · refine qn (fun ⟨o, e, r⟩ => ?_) _ s1
        match o, e, r with
        | .pack c p, e, r => exact no c p ⟨e, r.2, r.1.2⟩
        | .many c ts, e, r => exact m1 (by rw [e]; exact (app5 word5_len.1).1)
        | .add c p k, e, r => exact m2 (by rw [e]; exact (app5 word5_len.2).1)
end
/-! ### defs that are called while no list or tuple is being shown: str(..) of data -/
structure FnOkG (P : Program) (w : World) (K : PySem.W.Frag) (mg : Str → Option Value) (base : Heap) (k : Nat) (f : Addr) (fd : FuncData) (ps : List Str) (sp : Sp) : Prop where
  count : ∀ vs H Q E, sp vs H Q E → vs.length = ps.length
  go : ∀ (A : Around) (out : List Env) (s : Shared) (H : Hp) (args : Args) (us : List Value) (vs : List V) (Q : VK) (E : XK), A.guards = some [] → Room k A → Env0 P w K mg base A out s H → BindsTo s fd args (ps.zip us) → Vals vs us → sp vs H Q E →
    codeAny (model P w) A (.call (.ref f) args) (CR CX0 out P w H s Q E) s
section
variable {P : Program} {w : World} {K : PySem.W.Frag} {mg : Str → Option Value} {base : Heap}
theorem okG {x qual : Str} {st : Stmt} {f : Addr} {fd : FuncData} {N ps : List Str} {k : Nat} {sp : Sp} (F : Fun K x qual st f fd) (S : FnScope N ps (defScope st)) (cnt : ∀ vs H Q E, sp vs H Q E → vs.length = ps.length)
    (bd : ∀ (cdv : Value) (A : Around) (out : List Env) (s : Shared) (H : Hp) (vs : List V) (Q : VK) (E : XK), (A.deeper (envOfC qual (defScope st) s.heap.objs.size f cdv)).guards = some [] → Room k (A.deeper (envOfC qual (defScope st) s.heap.objs.size f cdv)) → sp vs H Q E →
      ∃ t, PSs (cxOf CX0 P w K mg base N qual (defScope st) f cdv A out s H E).nox (defBody st) t ∧ t { nx := fun _ H' => Q .non H', rt := Q } (start N vs) H) : FnOkG P w K mg base (k + 1) f fd ps sp := by
  obtain ⟨oc, od, kV, doc, pm, an, cdv, ct, osl, rfl, lk, hcd⟩ := F.ex
  refine ⟨cnt, fun A out s H args us vs Q E gd room env bnd rv pre => ?_⟩
  have kin : K.In s.heap := env.mod.kin.keeps fun b o z => (env.bs b o z).1
  have nol : s.heap.NoLimit := env.mod.nolimit.keeps fun b o z => (env.bs b o z).1
  refine codeAny_call_function room.depth (kin _ _ lk) rfl S.co S.gen rfl (PySem.W.codeRec_of kin hcd) (bnd _ _ _ _ ?_)
  refine wpAny_newFunctionEnv_cells S.kind (fun y hy => ?_) fun env' he s1 inside => ?_
  · have hp := S.par y.1 (List.of_mem_zip (show (y.1, y.2) ∈ ps.zip us from hy)).1
    exact hp.imp id fun z => ⟨z, PySem.W.cellsFrom_some _ _ _ (.inl z)⟩
  · subst he
    refine ⟨nol.keeps inside.toInCall.keep, codeAny_func ?_⟩
    obtain ⟨t, body, holds⟩ := bd cdv A out s H vs Q E gd (room.deeper _) pre
    have inv : Inv (cxOf CX0 P w K mg base N qual (defScope st) f cdv A out s H E) [] (start N vs) H s1 := inv_start S room.hd env (cnt _ _ _ _ pre) rv inside
    refine wpAny_mono (body.nox.run [] s1 (start N vs) H _ inv holds) (fun fl s' res => ?_) fun _ _ z => z
    cases fl with
    | brk => exact res.elim fun _ z => z.elim fun _ z => z.2.elim
    | cont => exact res.elim fun _ z => z.elim fun _ z => z.2.elim
    | next =>
      obtain ⟨_, Hn, J, z⟩ := res
      exact ⟨.non, Hn, J.os, J.bare, J.base, J.hok, rfl, z⟩
    | ret u =>
      obtain ⟨v, _, Hn, J, rel, z⟩ := res
      exact ⟨v, Hn, J.os, J.bare, J.base, J.hok, rel, z⟩
/-- f(e, ..), f such a def -/
theorem pe_callG {X : Cx} {x : Str} {f : Addr} {fd : FuncData} {ps : List Str} {sp : Sp} {k : Nat} {p pos : Pos} {e : Expr} {es : List Expr} {t : TA} (gd : X.A.guards = some []) (F : FnOkG X.prog X.w X.K X.mg X.base k f fd ps sp) (room : Room k X.A) (hg : Gl X x) (hm : X.mg x = some (.ref f)) (kp : PySem.W.keepIn X.K (.ref f) = true) (bnd : Binds X.K fd ps [])
    (args : PA X (e :: es) t) (hx : Passes CX0 X fun _ _ _ => False) (nodb : (x == ("__debug__" : Str)) = false := by decide) (plain : starEach (e :: es) X.env = (false, eval e X.env) :: starEach es X.env := by rfl) (rest : (backTo pos (starEach es X.env)).any (·.1) = false := by rfl) :
    PE X (.Call (.Name x p) (e :: es) [] pos) (tCall sp [] (fun _ _ _ => False) t) := by
  refine ⟨fun pins s σ H Q I pre => wpAny_Call_Name_kw (ld_glob I hg hm ?_ nodb)⟩
  refine PySem.W.callWith_K (h₀ := X.base) I.ok.mod.kin kp (thn (args.run pos pins s σ H _ I pre) fun us s1 got => ?_) plain rest
  obtain ⟨vs, H1, I1, rel, pre1⟩ := got
  have pre1' : sp vs H1 Q fun _ _ _ => False := by
    have z := pre1
    rw [List.append_nil] at z
    exact z
  have many : us.length = ps.length := by rw [← rel.length]; exact F.count _ _ _ _ pre1'
  have bt := bnd s1 us I1.kIn (by rw [List.append_nil]; exact many)
  rw [List.append_nil] at bt
  refine ⟨I1.kIn, wpAny_call (codeAny_mono (F.go X.A X.stack s1 H1 ⟨us, []⟩ us vs Q _ gd room I1.env0 bt rel pre1') fun r s' res => ?_)⟩
  match r, res with
  | .error er, z => exact hx pins σ H1 s1 er s' I1 z
  | .ok (.ret u), z => exact I1.after z
/-- str(x) of data -/
def rStrD (K : PySem.W.Frag) : List V → Hp → VK → Prop := fun xs H Q => ∃ (a : Addr) (d : PyData), xs = [.ref a] ∧ Dp K H (.ref a) d ∧ d.showable = true ∧ d.hasDict = false ∧ d.depth ≤ 60 ∧ d.shown.length ≤ sizeLine ∧ Q (.str d.shown) H
theorem cr_strD {X : Cx} (gd : X.A.guards = some []) (hu : X.A.units + 64 < cLine) : CallR X (.type "str") (rStrD X.K) := by
  intro pins s σ H vs us Q I rel pre
  obtain ⟨a, d, rfl, dp, sh, nd, dep, small, q⟩ := pre
  rw [Vals.ref1 rel]
  obtain ⟨as, rd⟩ := Dp.reads I _ _ _ dp rfl
  exact str_of_reads rd sh (fun z => by rw [nd] at z; cases z) gd (by omega) (fun _ _ z => z) (fun h' u tk keep => ⟨.str _, H, I.kept keep, ⟨u, rfl⟩, q⟩) small
theorem cr_strDK {X : Cx} {K : PySem.W.Frag} (h : X.K = K) (gd : X.A.guards = some []) (hu : X.A.units + 64 < cLine) : CallR X (.type "str") (rStrD K) := by subst h; exact cr_strD gd hu
end
/-! ### data that can be shown -/
structure Sh (n : Nat) (d : PyData) : Prop where
  ok : d.showable = true
  nd : d.hasDict = false
  len : d.shown.length ≤ n
theorem Sh.mono {n m : Nat} {d : PyData} (h : Sh n d) (k : n ≤ m) : Sh m d := ⟨h.ok, h.nd, Nat.le_trans h.len k⟩
theorem Sh.int {i : Int} (h : i.natAbs < 10 ^ 12) : Sh 13 (.int i) := by
  refine ⟨?_, by simp [PyData.hasDict], PyData.shown_int_le h⟩
  simp only [PyData.showable, decide_eq_true_eq]
  refine log2_small (Nat.lt_trans h ?_)
  exact Nat.lt_trans (by decide : 10 ^ 12 < 2 ^ 64) (Nat.pow_lt_pow_right (by decide) (by decide))
theorem shw_all {n : Nat} : ∀ {xs : List PyData}, (∀ x ∈ xs, Sh n x) → PyData.showableAll xs = true ∧ PyData.hasDictAll xs = false ∧ ((PyData.shownAll xs).map (·.length)).sum ≤ n * xs.length
  | [], _ => ⟨by simp [PyData.showableAll], by simp [PyData.hasDictAll], by simp [PyData.shownAll]⟩
  | x :: r, h => by
    obtain ⟨h1, h2, h3⟩ := shw_all (xs := r) fun y hy => h y (List.mem_cons_of_mem _ hy)
    have hx := h x List.mem_cons_self
    refine ⟨by simp [PyData.showableAll, hx.ok, h1], by simp [PyData.hasDictAll, hx.nd, h2], ?_⟩
    rw [PyData.shownAll_cons, List.map_cons, List.sum_cons, List.length_cons, Nat.mul_add, Nat.mul_one]
    have := hx.len
    omega
theorem Sh.list {n : Nat} {xs : List PyData} (h : ∀ x ∈ xs, Sh n x) : Sh (n * xs.length + 2 * xs.length + 3) (.list xs) := by
  obtain ⟨h1, h2, h3⟩ := shw_all h
  refine ⟨by simp [PyData.showable, h1], by simp [PyData.hasDict, h2], ?_⟩
  have := listText_len_le (PyData.shownAll xs)
  rw [PyData.shownAll_length] at this
  show (PyData.list xs).shown.length ≤ _
  rw [PyData.shown_list, ← listText_eq_join]
  omega
theorem Sh.tuple {n : Nat} {xs : List PyData} (h : ∀ x ∈ xs, Sh n x) : Sh (n * xs.length + 2 * xs.length + 3) (.tuple xs) := by
  obtain ⟨h1, h2, h3⟩ := shw_all h
  refine ⟨by simp [PyData.showable, h1], by simp [PyData.hasDict, h2], ?_⟩
  have := tupleText_len_le (PyData.shownAll xs)
  rw [PyData.shownAll_length] at this
  have e : (PyData.tuple xs).shown = tupleText (PyData.shownAll xs) := by simp only [PyData.shown]
  rw [e]
  omega
theorem Sh.ints {m : Nat} {ns : List Int} (h : ∀ n ∈ ns, n.natAbs < 10 ^ 12) (hl : ns.length ≤ m) : Sh (15 * m + 3) (.list (ns.map PyData.int)) := by
  refine (Sh.list (n := 13) fun x hx => ?_).mono ?_
  · obtain ⟨n, hn, rfl⟩ := List.mem_map.mp hx
    exact Sh.int (h n hn)
  · rw [List.length_map]
    omega
theorem Sh.word {x : Str} (h : x = "pack" ∨ x = "many" ∨ x = "add") : Sh 13 (.str x) := by
  refine ⟨by simp [PyData.showable], by simp [PyData.hasDict], ?_⟩
  rw [PyData.shown_str]
  rcases h with rfl | rfl | rfl <;> decide +kernel
/-! ### what is due of rows: the data that they give, shown, or the first row that gives none -/
theorem tell_abs {xs : List Str} {c : List Int} (g : GoodN xs) (f : FitC xs c) : Sh 200 (dInts c) := (Sh.ints (m := 4) (fun n hn => by have := f.small n hn; omega) (by rw [f.len]; exact g.few)).mono (by decide)
theorem sh_tell {xs : List Str} {o : Ofr} (g : GoodN xs) (t : TellO xs o) : Sh 1000 (dOfr o) := by
  have pr : ∀ {p : Int}, 0 ≤ p → p < 1000000000000 → Sh 200 (.int p) := fun {p} h0 h1 => (Sh.int (by omega)).mono (by decide)
  cases o with
  | pack c p =>
    obtain ⟨h1, h3, h4⟩ := t
    refine (Sh.tuple (n := 200) fun x hx => ?_).mono (by show 200 * 3 + 2 * 3 + 3 ≤ 1000; decide)
    simp only [List.mem_cons, List.not_mem_nil, or_false] at hx
    rcases hx with rfl | rfl | rfl
    · exact (Sh.word (.inl rfl)).mono (by decide)
    · exact tell_abs g h1
    · exact pr h3 h4
  | add c p k =>
    obtain ⟨h1, h3, h4, h5, h6⟩ := t
    refine (Sh.tuple (n := 200) fun x hx => ?_).mono (by show 200 * 4 + 2 * 4 + 3 ≤ 1000; decide)
    simp only [List.mem_cons, List.not_mem_nil, or_false] at hx
    rcases hx with rfl | rfl | rfl | rfl
    · exact (Sh.word (.inr (.inr rfl))).mono (by decide)
    · exact tell_abs g h1
    · exact pr h3 h4
    · exact pr h5 (by omega)
  | many c ts =>
    obtain ⟨h1, h3⟩ := t
    have few := h3.few
    refine (Sh.tuple (n := 200) fun x hx => ?_).mono (by show 200 * 3 + 2 * 3 + 3 ≤ 1000; decide)
    simp only [List.mem_cons, List.not_mem_nil, or_false] at hx
    rcases hx with rfl | rfl | rfl
    · exact (Sh.word (.inr (.inl rfl))).mono (by decide)
    · exact tell_abs g h1
    · refine (Sh.list (n := 40) fun x hx => ?_).mono ?_
      · obtain ⟨t, ht, rfl⟩ := List.mem_map.mp hx
        have p := h3.each t ht
        refine (Sh.tuple (n := 13) fun x hx => ?_).mono (by show 13 * 2 + 2 * 2 + 3 ≤ 40; decide)
        simp only [List.mem_cons, List.not_mem_nil, or_false] at hx
        rcases hx with rfl | rfl
        · exact Sh.int (by omega)
        · exact Sh.int (by omega)
      · rw [List.length_map]
        omega
theorem sh_tells {xs : List Str} {os : List Ofr} (g : GoodN xs) (h : ∀ o ∈ os, ReadO xs o) (h8 : os.length ≤ 8) : Sh 10000 (dShop os) := by
  refine (Sh.list (n := 1000) fun x hx => ?_).mono ?_
  · obtain ⟨o, ho, rfl⟩ := List.mem_map.mp hx
    exact sh_tell g (h o ho).1
  · rw [List.length_map]
    omega
theorem num_uniq {a b : Int} (h : numS a.toNat = numS b.toNat) (ha : 0 ≤ a) (hb : 0 ≤ b) : a = b := by
  have e := congrArg TL.tl h
  rw [tl_numS, tl_numS] at e
  have := TL.numL_inj e
  omega
theorem sold_uniq {xs : List Str} (g : GoodN xs) {c c' : List Int} {p p' : Int} (h : soldS xs c p = soldS xs c' p') (f : FitC xs c) (f' : FitC xs c') (h1 : 0 ≤ p) (h2 : p < 1000000000000) (h3 : 0 ≤ p') (h4 : p' < 1000000000000) : c = c' ∧ p = p' := by
  obtain ⟨e1, e2⟩ := pric_uniq (tx := soldS xs c p) (n := p.toNat) (n' := p'.toNat) ⟨rfl, by show p.toNat < 1000000000000; omega⟩ ⟨h, by show p'.toNat < 1000000000000; omega⟩
  exact ⟨show_uniq g f f' e1, num_uniq e2 h1 h3⟩
theorem tier_uniq {t t' : Int × Int} (h : tierS t = tierS t') (h1 : 0 ≤ t.1) (h2 : 0 ≤ t.2) (h3 : 0 ≤ t'.1) (h4 : 0 ≤ t'.2) : t = t' := by
  have e := (tier_part t).symm.trans ((congrArg (fun z => Txt.partition z (" for " : Str)) h).trans (tier_part t'))
  injection e with e1 e2
  injection e2 with _ e2
  exact Prod.ext (num_uniq e1 h1 h3) (num_uniq e2 h2 h4)
theorem tiers_uniq {ts ts' : List (Int × Int)} (h : tiersS ts = tiersS ts') (f : FitT ts) (f' : FitT ts') : ts = ts' := by
  have n1 : ts ≠ [] := fun z => by have := f.pos; rw [z] at this; exact absurd this (by decide)
  have n2 : ts' ≠ [] := fun z => by have := f'.pos; rw [z] at this; exact absurd this (by decide)
  have e := (tiers_split n1).symm.trans ((congrArg (fun z => Txt.split z (", " : Str)) h).trans (tiers_split n2))
  have key : ∀ {a b : List (Int × Int)}, (∀ t ∈ a, 0 ≤ t.1 ∧ 0 ≤ t.2) → (∀ t ∈ b, 0 ≤ t.1 ∧ 0 ≤ t.2) → a.map tierS = b.map tierS → a = b := fun {a} => by
    induction a with
    | nil => intro b _ _ e; cases b with | nil => rfl | cons t r => cases e
    | cons t r ih =>
      intro b ha hb e
      cases b with
      | nil => cases e
      | cons t' r' =>
        have e1 := (List.cons.inj e).1
        have e2 := (List.cons.inj e).2
        have a1 := ha t List.mem_cons_self
        have b1 := hb t' List.mem_cons_self
        rw [tier_uniq e1 a1.1 a1.2 b1.1 b1.2, ih (fun t ht => ha t (List.mem_cons_of_mem _ ht)) (fun t ht => hb t (List.mem_cons_of_mem _ ht)) e2]
  exact key (fun t ht => ⟨(f.each t ht).1, (f.each t ht).2.2.1⟩) (fun t ht => ⟨(f'.each t ht).1, (f'.each t ht).2.2.1⟩) e
/-- a text shows one offer at most -/
theorem offer_uniq {xs : List Str} (g : GoodN xs) {o o' : Ofr} (h : offerS xs o = offerS xs o') (r : ReadO xs o) (r' : ReadO xs o') : o = o' := by
  match o, h, r with
  | .many c ts, h, r =>
    obtain ⟨c', ts', rfl, e⟩ := read_many_word h r'
    have e2 := (many_part g c (tiersS ts)).symm.trans ((congrArg (fun z => Txt.partition z (": " : Str)) e).trans (many_part g c' (tiersS ts')))
    injection e2 with e3 e4
    injection e4 with _ e4
    rw [show_uniq g r.1.1 r'.1.1 e3, tiers_uniq e4 r.1.2 r'.1.2]
  | .add c p k, h, r =>
    obtain ⟨c', p', k', rfl, e⟩ := read_with_word h r'
    have e2 := (add_part k.toNat (soldS xs c p)).symm.trans ((congrArg (fun z => Txt.partition z (": " : Str)) e).trans (add_part k'.toNat (soldS xs c' p')))
    injection e2 with e3 e4
    injection e4 with _ e4
    obtain ⟨f1, p1, p2, k1, k2⟩ := r.1
    obtain ⟨f1', p1', p2', k1', k2'⟩ := r'.1
    obtain ⟨e5, e6⟩ := sold_uniq g e4 f1 f1' p1 p2 p1' p2'
    rw [e5, e6, num_uniq e3 k1 k1']
  | .pack c p, h, r =>
    match o', h, r' with
    | .pack c' p', h, r' =>
      obtain ⟨f1, p1, p2⟩ := r.1
      obtain ⟨f1', p1', p2'⟩ := r'.1
      obtain ⟨e5, e6⟩ := sold_uniq g h f1 f1' p1 p2 p1' p2'
      rw [e5, e6]
    | .many c' ts', h, r' => exact absurd h (five_other r.2 tl_manyW (by decide) _)
    | .add c' p' k', h, r' => exact absurd h (five_other r.2 tl_withW (by decide) _)
theorem offers_uniq {xs : List Str} (g : GoodN xs) : ∀ {os os' : List Ofr}, os.map (offerS xs) = os'.map (offerS xs) → (∀ o ∈ os, ReadO xs o) → (∀ o ∈ os', ReadO xs o) → os = os'
  | [], [], _, _, _ => rfl
  | [], _ :: _, h, _, _ => by cases h
  | _ :: _, [], h, _, _ => by cases h
  | o :: r, o' :: r', h, h1, h2 => by
    rw [offer_uniq g (List.cons.inj h).1 (h1 o List.mem_cons_self) (h2 o' List.mem_cons_self), offers_uniq g (List.cons.inj h).2 (fun o ho => h1 o (List.mem_cons_of_mem _ ho)) (fun o ho => h2 o (List.mem_cons_of_mem _ ho))]
def AtNo (xs rows : List Str) (n : Nat) : Prop := (∃ p, rows[n]? = some p ∧ ¬ ReadR xs p) ∧ ∀ (j : Nat) p', j < n → rows[j]? = some p' → ReadR xs p'
theorem AtNo.uniq {xs rows : List Str} {n n' : Nat} (h : AtNo xs rows n) (h' : AtNo xs rows n') : n = n' := by
  obtain ⟨⟨p, e, nr⟩, low⟩ := h
  obtain ⟨⟨p', e', nr'⟩, low'⟩ := h'
  rcases Nat.lt_trichotomy n n' with z | z | z
  · exact absurd (low' n p z e) nr
  · exact z
  · exact absurd (low n' p' z e') nr'
def Due (tS : Nat → Str) (xs rows : List Str) (wh : Bool) (ys : List Str) : Prop :=
  (wh = false ∧ ∃ p, rows[0]? = some p ∧ ((∃ cs, p = showM xs cs ∧ FitC xs cs ∧ boundM cs ≤ 400 ∧ ys = [("found" : Str), (dInts cs).shown]) ∨ (¬ ReadC xs p ∧ ys = [("text" : Str), tS 0]))) ∨
  (wh = true ∧ ((∃ os, rows = os.map (offerS xs) ∧ (∀ o ∈ os, ReadO xs o) ∧ ys = [("found" : Str), (dShop os).shown]) ∨ ∃ n, AtNo xs rows n ∧ ys = [("text" : Str), tS n]))
theorem Due.uniq {tS : Nat → Str} {xs rows : List Str} {wh : Bool} {ys zs : List Str} (g : GoodN xs) (h : Due tS xs rows wh ys) (h' : Due tS xs rows wh zs) : ys = zs := by
  rcases h with ⟨rfl, p, e, h⟩ | ⟨rfl, h⟩
  · rcases h' with ⟨_, p', e', h'⟩ | ⟨z, _⟩
    · have := Option.some.inj (e.symm.trans e')
      subst this
      rcases h with ⟨cs, e1, f1, b1, rfl⟩ | ⟨n1, rfl⟩
      · rcases h' with ⟨cs', e2, f2, _, rfl⟩ | ⟨n2, _⟩
        · rw [show_uniq g f1 f2 (e1.symm.trans e2)]
        · exact absurd ⟨cs, e1, f1, b1⟩ n2
      · rcases h' with ⟨cs', e2, f2, b2, _⟩ | ⟨n2, rfl⟩
        · exact absurd ⟨cs', e2, f2, b2⟩ n1
        · rfl
    · cases z
  · rcases h' with ⟨z, _⟩ | ⟨_, h'⟩
    · cases z
    · have no : ∀ {os : List Ofr} {n : Nat}, rows = os.map (offerS xs) → (∀ o ∈ os, ReadO xs o) → AtNo xs rows n → False := fun {os n} e r a => by
        obtain ⟨⟨p, e1, nr⟩, _⟩ := a
        rw [e, List.getElem?_map] at e1
        obtain ⟨o, e2, rfl⟩ := Option.map_eq_some_iff.mp e1
        exact nr ⟨o, rfl, r o (List.mem_of_getElem? e2)⟩
      rcases h with ⟨os, e1, r1, rfl⟩ | ⟨n, a1, rfl⟩
      · rcases h' with ⟨os', e2, r2, rfl⟩ | ⟨n, a2, _⟩
        · rw [offers_uniq g (e1.symm.trans e2) r1 r2]
        · exact (no e1 r1 a2).elim
      · rcases h' with ⟨os', e2, r2, rfl⟩ | ⟨n', a2, rfl⟩
        · exact (no e2 r2 a1).elim
        · rw [a1.uniq a2]
theorem depth_intsL (ns : List Int) : (dInts ns).depth ≤ 60 := by
  simp only [PyData.depth, depth_ints]
  decide
theorem depth_shop (os : List Ofr) : (dShop os).depth ≤ 60 := by
  have h1 := depth_ofrs os
  simp only [PyData.depth]
  omega
/-! ### lists of offers and of none, side by side -/
def Two {α β : Type} (R : α → β → Prop) : List α → List β → Prop
  | [], [] => True
  | a :: as, b :: bs => R a b ∧ Two R as bs
  | _, _ => False
theorem Two.mono {α β : Type} {R S : α → β → Prop} (f : ∀ a b, R a b → S a b) : ∀ {as : List α} {bs : List β}, Two R as bs → Two S as bs
  | [], [], _ => trivial
  | [], _ :: _, h => h.elim
  | _ :: _, [], h => h.elim
  | _ :: _, _ :: _, h => ⟨f _ _ h.1, h.2.mono f⟩
theorem Two.snoc {α β : Type} {R : α → β → Prop} {a : α} {b : β} (r : R a b) : ∀ {as : List α} {bs : List β}, Two R as bs → Two R (as ++ [a]) (bs ++ [b])
  | [], [], _ => ⟨r, trivial⟩
  | [], _ :: _, h => h.elim
  | _ :: _, [], h => h.elim
  | _ :: _, _ :: _, h => ⟨h.1, h.2.snoc r⟩
theorem Two.len {α β : Type} {R : α → β → Prop} : ∀ {as : List α} {bs : List β}, Two R as bs → as.length = bs.length
  | [], [], _ => rfl
  | [], _ :: _, h => h.elim
  | _ :: _, [], h => h.elim
  | _ :: _, _ :: _, h => congrArg (· + 1) h.2.len
theorem Two.get {α β : Type} {R : α → β → Prop} : ∀ {as : List α} {bs : List β} {i : Nat} {a : α} {b : β}, Two R as bs → as[i]? = some a → bs[i]? = some b → R a b
  | [], [], i, _, _, _, h, _ => by cases i <;> cases h
  | [], _ :: _, _, _, _, h, _, _ => h.elim
  | _ :: _, [], _, _, _, h, _, _ => h.elim
  | a :: as, b :: bs, 0, _, _, h, ha, hb => by
    cases Option.some.inj ha
    cases Option.some.inj hb
    exact h.1
  | a :: as, b :: bs, i + 1, _, _, h, ha, hb => h.2.get (i := i) ha hb
def EntryAt (H : Hp) (v : V) : Option Ofr → Prop
  | none => v = .non
  | some o => ∃ a, v = .ref a ∧ OfrAt H a o
def RowIs (xs : List Str) (p : Str) : Option Ofr → Prop
  | none => ¬ ReadR xs p
  | some o => p = offerS xs o ∧ ReadO xs o
def dOpt : Option Ofr → PyData
  | none => .none
  | some o => dOfr o
theorem two_dp {K : PySem.W.Frag} {H : Hp} : ∀ {vs : List V} {es : List (Option Ofr)}, Two (EntryAt H) vs es → DpAll K H vs (es.map dOpt)
  | [], [], _ => .nil
  | [], _ :: _, h => h.elim
  | _ :: _, [], h => h.elim
  | v :: vs, none :: es, h => by
    have e : v = .non := h.1
    rw [e]
    exact .cons .non (two_dp h.2)
  | v :: vs, some o :: es, h => by
    obtain ⟨a, e, ho⟩ := h.1
    rw [e]
    exact .cons ho.dp (two_dp h.2)
theorem lay_opts : ∀ es : List (Option Ofr), PyData.canLayAll0 (es.map dOpt) = true
  | [] => by simp [PyData.canLayAll0]
  | none :: r => by
    have ih := lay_opts r
    simp [PyData.canLayAll0, PyData.canLay0, dOpt, ih]
  | some o :: r => by
    have ih := lay_opts r
    have h1 := lay_ofr o
    simp [PyData.canLayAll0, dOpt, ih, h1]
theorem depth_opts : ∀ es : List (Option Ofr), PyData.depthAll (es.map dOpt) ≤ 4
  | [] => by simp [PyData.depthAll]
  | none :: r => by
    have ih := depth_opts r
    simp only [List.map_cons, PyData.depthAll, dOpt, PyData.depth]
    omega
  | some o :: r => by
    have ih := depth_opts r
    have h1 := depth_ofr o
    simp only [List.map_cons, PyData.depthAll, dOpt]
    omega
theorem shaped_opts (es : List (Option Ofr)) : SeqAt.shaped (.list (es.map dOpt)) = true := by
  unfold SeqAt.shaped
  have h1 : PyData.canLay0 (.list (es.map dOpt)) = true := by
    simp only [PyData.canLay0]
    exact lay_opts es
  have h2 : PyData.depth (.list (es.map dOpt)) ≤ 64 := by
    have := depth_opts es
    simp only [PyData.depth]
    omega
  rw [h1, decide_eq_true h2]
  rfl
theorem eqv_opt : ∀ e : Option Ofr, PyData.eqv (dOpt e) .none = e.isNone
  | none => rfl
  | some (.pack _ _) => rfl
  | some (.many _ _) => rfl
  | some (.add _ _ _) => rfl
theorem any_opts (es : List (Option Ofr)) : ((es.map dOpt).any fun z => PyData.eqv z .none) = es.any Option.isNone := by
  rw [List.any_map]
  exact congrArg (List.any es) (funext fun e => eqv_opt e)
/-- all are offers, or there is the first that is none -/
theorem opts_ways : ∀ es : List (Option Ofr), (∃ os : List Ofr, es = os.map some) ∨ ∃ n : Nat, es[n]? = some none ∧ ∀ m : Nat, m < n → ∃ o, es[m]? = some (some o)
  | [] => .inl ⟨[], rfl⟩
  | none :: r => .inr ⟨0, rfl, fun m h => absurd h (Nat.not_lt_zero _)⟩
  | some o :: r => by
    rcases opts_ways r with ⟨os, e⟩ | ⟨n, h1, h2⟩
    · exact .inl ⟨o :: os, by rw [e]; rfl⟩
    · refine .inr ⟨n + 1, h1, fun m hm => ?_⟩
      match m, hm with
      | 0, _ => exact ⟨o, rfl⟩
      | m + 1, hm => exact h2 m (by omega)
theorem two_rows {xs : List Str} : ∀ {rows : List Str} {os : List Ofr}, Two (RowIs xs) rows (os.map some) → rows = os.map (offerS xs) ∧ ∀ o ∈ os, ReadO xs o
  | [], [], _ => ⟨rfl, fun o h => by cases h⟩
  | [], _ :: _, h => h.elim
  | _ :: _, [], h => h.elim
  | p :: r, o :: os, h => by
    obtain ⟨h1, h2⟩ := h
    obtain ⟨e, ro⟩ := two_rows h2
    refine ⟨by rw [h1.1, e]; rfl, fun o' ho => ?_⟩
    rcases List.mem_cons.mp ho with rfl | ho
    · exact h1.2
    · exact ro o' ho
theorem two_no {xs rows : List Str} {es : List (Option Ofr)} {n : Nat} (h : Two (RowIs xs) rows es) (hn : es[n]? = some none) (low : ∀ m : Nat, m < n → ∃ o, es[m]? = some (some o)) : AtNo xs rows n := by
  have ln := h.len
  have lt := (List.getElem?_eq_some_iff.mp hn).1
  refine ⟨⟨rows[n]'(by omega), List.getElem?_eq_getElem _, h.get (List.getElem?_eq_getElem (by omega)) hn⟩, fun j p hj hp => ?_⟩
  obtain ⟨o, ho⟩ := low j hj
  have r : RowIs xs p (some o) := h.get hp ho
  exact ⟨o, r.1, r.2⟩
/-! ### _law_due -/
abbrev s_law_due : Stmt := topS 50
abbrev N_law_due : List Str := ["_law_names_here", "_law_rows", "_law_whole", "_law_offers", "_law_content_here", "_law_text"]
theorem sc_law_due : FnScope N_law_due ["_law_names_here", "_law_rows", "_law_whole"] (defScope s_law_due) := ⟨rfl, rfl, rfl, by decide +kernel, rfl, by decide +kernel, by decide +kernel⟩

theorem hu65 {k : Nat} {A : Around} (r : Room k A) : A.units + 65 < cLine := by have := r.un; omega
def tSI (n : Nat) : Str := Str.ofString (toString ((n : Nat) : Int))
section
variable {P : Program} {w : World} {K : PySem.W.Frag} {mg : Str → Option Value} {base : Heap}
def sp_due : Sp := fun vs H Q _ => ∃ (a r : Addr) (wh : Bool) (xs rows : List Str), vs = [.ref a, .ref r, .bl wh] ∧ H a = some (LS xs) ∧ H r = some (LS rows) ∧ GoodN xs ∧ 1 ≤ rows.length ∧ rows.length ≤ 8 ∧ (∀ p ∈ rows, p.length ≤ 90000 ∧ Signs p) ∧
  (∀ ys H' p, Due tSI xs rows wh ys → Same H H' → H p = none → H' p = some (LS ys) → Q (.ref p) H')
theorem ok_due {f f1 f2 : Addr} {fd fd1 fd2 : FuncData} {k : Nat} (M : Names mg) (D : Def K mg "_law_due" s_law_due ["_law_names_here", "_law_rows", "_law_whole"] f fd) (D_law_content_of : Def K mg "_law_content_of" s_law_content_of ["_law_names_here", "_law_text"] f1 fd1) (G_law_content_of : FnOk P w K mg base CX0 k f1 fd1 ["_law_names_here", "_law_text"] sp_lcontent_of)
    (D_law_offer_of : Def K mg "_law_offer_of" s_law_offer_of ["_law_names_here", "_law_text"] f2 fd2) (G_law_offer_of : FnOk P w K mg base CX0 k f2 fd2 ["_law_names_here", "_law_text"] sp_offer_of) : FnOkG P w K mg base (k + 1) f fd ["_law_names_here", "_law_rows", "_law_whole"] sp_due := by
  refine okG D.F sc_law_due (fun vs H Q E h => ?_) (fun cdv A outer s H vs Q E gd hr h => ?_)
  · obtain ⟨a, r, wh, xs, rows, rfl, _⟩ := h
    rfl
  · obtain ⟨a, r, wh, xs, rows, rfl, ha, hrr, g, h1, h8, hl, q⟩ := h
    refine ⟨_, (pss_cons (ps_if (pt_not (pt_val (pv 2)))
   (pss_cons (ps_set (i := 4) sc_law_due.nd rfl (Or.inl rfl) (pe_call G_law_content_of hr (by rfl) D_law_content_of.g D_law_content_of.F.kp D_law_content_of.b .nil pass0 (pa_cons (pv 0) (pa_cons (pe_ix ix_list (pv 1) pe_int (fun _ _ => rfl)) pa_nil))))
  (pss_cons (ps_if (pt_cmpR op_isN (pv 4) pe_non (nomark _))
   (pss_one (ps_ret (pe_lst (pa_cons pe_str (pa_cons pe_str pa_nil)))))
   pss_nil)
  (pss_one (ps_ret (pe_lst (pa_cons pe_str (pa_cons (pe_callTy (cr_strD gd hr.units) (by rfl) M.str (by decide +kernel) (pa_cons (pv 4) pa_nil)) pa_nil)))))))
   pss_nil)
  (pss_cons (ps_setLc (i := 3) (own := [("_law_text", 5)]) (by rfl) sc_law_due.nd rfl rfl (sw_true rfl rfl rfl (by decide +kernel)) (pi_list (pv 1)) (blkOk_by (own := [("_law_text", 5)]) (N := N_law_due) (sc := defScope s_law_due) (by decide +kernel)) (fun _ _ _ _ _ => (pg_name (i := 5) sc_law_due.nd rfl (Or.inl rfl))) (fun _ _ _ _ _ => pts_nil) (fun _ _ _ _ _ => (pe_call G_law_offer_of hr (by rfl) D_law_offer_of.g D_law_offer_of.F.kp D_law_offer_of.b .nil pass0 (pa_cons (pv 0) (pa_cons (pv 5) pa_nil)))))
  (pss_cons (ps_if (pt_cmpR (op_inD (hu65 hr)) pe_non (pv 3) (by rfl))
   (pss_one (ps_ret (pe_lst (pa_cons pe_str (pa_cons (pe_callTy call_str_int (by rfl) M.str (by decide +kernel) (pa_cons (pe_bm PySem.F.plainAttrs_list PySem.F.slot_list_index PySem.F.type_list_index (mt_indexD (hu65 hr)) (pv 3) (pa_cons pe_non pa_nil)) pa_nil)) pa_nil)))))
   pss_nil)
  (pss_one (ps_ret (pe_lst (pa_cons pe_str (pa_cons (pe_callTy (cr_strD gd hr.units) (by rfl) M.str (by decide +kernel) (pa_cons (pv 3) pa_nil)) pa_nil)))))))), ?_⟩
    obtain ⟨p0, hp0⟩ : ∃ p0, rows[0]? = some p0 := ⟨_, List.getElem?_eq_getElem (by omega)⟩
    obtain ⟨l0, s0⟩ := hl p0 (List.mem_of_getElem? hp0)
    cases wh with
    | false =>
      refine ⟨_, rfl, false, rfl, ?_⟩
      refine ⟨_, rfl, _, rfl, r, _, _, _, rfl, rfl, SqL.of hrr, atI_nat (j := 0) (get_strs hp0), a, xs, p0, rfl, ha, g, l0, s0, fun cs e fc hb H1 b s1 nb hb1 => ?_, fun no H1 s1 => ?_⟩
      · have sh := tell_abs g fc
        refine ⟨_, rfl, rfl, false, rfl, ?_⟩
        refine ⟨_, rfl, b, dInts cs, rfl, dp_ints (SqL.of hb1), sh.ok, sh.nd, depth_intsL cs, szL (Nat.le_trans sh.len (by decide)), by show 2 ≤ sizeLine; decide, fun z nz => ?_⟩
        exact q _ _ z (.inl ⟨rfl, p0, hp0, .inl ⟨cs, e, fc, hb, rfl⟩⟩) (s1.trans (same_upd nz)) (s1.free nz) upd_same
      · refine ⟨_, rfl, rfl, true, rfl, ?_⟩
        refine ⟨by show 2 ≤ sizeLine; decide, fun z nz => ?_⟩
        refine q [("text" : Str), tSI 0] _ z (.inl ⟨rfl, p0, hp0, .inr ⟨no, rfl⟩⟩) (s1.trans (same_upd nz)) (s1.free nz) ?_
        rw [upd_same]
        exact congrArg (fun t : Str => some (HO.lst [V.str ("text" : Str), V.str t])) (by decide +kernel)
    | true =>
      refine ⟨_, rfl, true, rfl, ?_⟩
      change ∃ x, _
      refine ⟨_, rfl, r, rfl, ⟨_, SqL.of hrr⟩, fun B nB => lc_list (xs := rows.map V.str) (fun i H' => Same H H' ∧ ∃ (vs : List V) (es : List (Option Ofr)), H' B = some (.lst vs) ∧ vs.length = i ∧ Two (EntryAt (cutH B H')) vs es ∧ Two (RowIs xs) (rows.take i) es) ⟨same_upd nB, [], [], upd_same, rfl, trivial, trivial⟩ (fun i H' _ hp => SqL.of (hp.1 _ _ hrr)) (fun i x H1 hx hp => ?_) (fun H1 hp => ?_)⟩
      · obtain ⟨s1, vs, es, hB, hlv, tw, tr⟩ := hp
        obtain ⟨p, hp, rfl⟩ := of_get_strs hx
        have hi := (List.getElem?_eq_some_iff.mp hp).1
        obtain ⟨pl, ps⟩ := hl p (List.mem_of_getElem? hp)
        have more : ∀ {H2 : Hp} {x : V} {e : Option Ofr}, Same H1 H2 → EntryAt (freshH H1 H2) x e → RowIs xs p e → Same H (upd H2 B (.lst (vs ++ [x]))) ∧ ∃ (vs' : List V) (es' : List (Option Ofr)), upd H2 B (.lst (vs ++ [x])) B = some (.lst vs') ∧ vs'.length = i + 1 ∧ Two (EntryAt (cutH B (upd H2 B (.lst (vs ++ [x]))))) vs' es' ∧ Two (RowIs xs) (rows.take (i + 1)) es' := fun {H2 x e} s2 en ri => by
          have keep : ∀ {F : Hp} {v : V} {e : Option Ofr}, Ke F (cutH B (upd H2 B (.lst (vs ++ [x])))) → EntryAt F v e → EntryAt (cutH B (upd H2 B (.lst (vs ++ [x])))) v e := fun {F v e} ke h => by
            match e, h with
            | none, h => exact h
            | some o, ⟨a, ea, ho⟩ => exact ⟨a, ea, ho.ke ke⟩
          have k1 : Ke (cutH B H1) (cutH B (upd H2 B (.lst (vs ++ [x])))) := fun b o hb _ => by
            obtain ⟨n1, h1⟩ := cut_some hb
            exact cut_put n1 (by rw [upd_ne n1]; exact s2 _ _ h1)
          have k2 : Ke (freshH H1 H2) (cutH B (upd H2 B (.lst (vs ++ [x])))) := fun b o hb _ => by
            obtain ⟨n1, h1⟩ := fresh_get hb
            have n2 : b ≠ B := fun z => by rw [z, hB] at n1; cases n1
            exact cut_put n2 (by rw [upd_ne n2]; exact h1)
          refine ⟨sm_new (s1.trans s2) nB, vs ++ [x], es ++ [e], upd_same, by rw [List.length_append, hlv]; rfl, (tw.mono fun v e h => keep k1 h).snoc (keep k2 en), ?_⟩
          rw [take_succ_at hp]
          exact tr.snoc ri
        refine ⟨rfl, _, rfl, _, rfl, a, xs, p, rfl, s1 _ _ ha, g, pl, ps, fun o e ro H2 v s2 ov => ?_, fun no H2 s2 => ?_⟩
        · exact ⟨_, s2 _ _ hB, szL' (by omega), more (e := some o) s2 ⟨v, rfl, ov⟩ ⟨e, ro⟩⟩
        · exact ⟨_, s2 _ _ hB, szL' (by omega), more (e := none) s2 rfl no⟩
      · obtain ⟨s1, vs, es, hB, hlv, tw, tr⟩ := hp
        rw [List.length_map] at hlv tr
        rw [List.take_length] at tr
        have hd : Two (EntryAt H1) vs es := tw.mono fun v e h => by
          match e, h with
          | none, h => exact h
          | some o, ⟨x, ea, ho⟩ => exact ⟨x, ea, ho.ke (Ke.of cut_le)⟩
        have dB : Dp K H1 (.ref B) (.list (es.map dOpt)) := .lst (SqL.of hB) (two_dp hd)
        refine ⟨_, rfl, .none, es.map dOpt, .non, dB, by decide, shaped_opts es, ?_⟩
        rw [any_opts]
        have les := tr.len
        rcases opts_ways es with ⟨os, eo⟩ | ⟨n, hn, low⟩
        · subst eo
          obtain ⟨er, ro⟩ := two_rows tr
          rw [List.length_map] at les
          have sh := sh_tells g ro (by omega)
          have em : (os.map some).map dOpt = os.map dOfr := by rw [List.map_map]; rfl
          rw [em] at dB
          refine ⟨false, ?_, ?_⟩
          · refine congrArg V.bl ?_
            rw [List.any_map, List.any_eq_false]
            exact fun o _ => Bool.false_ne_true
          refine ⟨_, rfl, B, dShop os, rfl, dB, sh.ok, sh.nd, depth_shop os, szL (Nat.le_trans sh.len (by decide)), by show 2 ≤ sizeLine; decide, fun z nz => ?_⟩
          exact q _ _ z (.inr ⟨rfl, .inl ⟨os, er, ro, rfl⟩⟩) (s1.trans (same_upd nz)) (s1.free nz) upd_same
        · have lt := (List.getElem?_eq_some_iff.mp hn).1
          refine ⟨true, ?_, ?_⟩
          · refine congrArg V.bl ?_
            rw [List.any_eq_true]
            exact ⟨none, List.mem_of_getElem? hn, rfl⟩
          refine ⟨_, rfl, .inl ⟨rfl, _, SqL.of hB⟩, B, .non, .none, es.map dOpt, n, .none, rfl, rfl, dB, .non, shaped_opts es, by decide, by rw [List.getElem?_map, hn]; rfl, rfl, fun m z hm hz => ?_, _, rfl, ?_, by show 2 ≤ sizeLine; decide, fun z nz => ?_⟩
          · obtain ⟨o, ho⟩ := low m hm
            rw [List.getElem?_map, ho] at hz
            rw [← Option.some.inj hz]
            exact eqv_opt (some o)
          · exact lt100_log (by omega)
          · exact q [("text" : Str), tSI n] _ z (.inr ⟨rfl, .inr ⟨n, two_no tr hn low, rfl⟩⟩) (s1.trans (same_upd nz)) (s1.free nz) upd_same
end
/-! ### refusals that are kept: which -/
abbrev s_law_which : Stmt := topS 48
abbrev N_law_which : List Str := ["_law_e", "_law_some"]
theorem sc_law_which : FnScope N_law_which ["_law_e"] (defScope s_law_which) := ⟨rfl, rfl, rfl, by decide +kernel, rfl, by decide +kernel, by decide +kernel⟩

/-- xs.count(True) of truths -/
def isT : Value → Bool
  | .bool b => b
  | _ => false
theorem bools_of : ∀ {bs : List Bool} {us : List Value}, Vals (bs.map V.bl) us → us = bs.map Value.bool
  | [], [], _ => rfl
  | b :: r, [], h => by cases h
  | [], u :: us, h => by cases h
  | b :: r, u :: us, h => by
    cases h with
    | cons h1 h2 =>
      cases h1
      rw [bools_of h2]
      rfl
theorem mt_countB {X : Cx} : MtR X "list.count" (fun x xs H Q => ∃ (p : Addr) (bs : List Bool), x = .ref p ∧ xs = [.bl true] ∧ SqL X.K H p (bs.map V.bl) ∧ Q (.int (bs.count true : Nat)) H) := by
  intro pins s σ H x xs v us Q I rx rxs h
  obtain ⟨p, bs, rfl, rfl, hs, q⟩ := h
  cases rx
  obtain ⟨u, rfl, ru⟩ := rxs.one
  cases ru
  obtain ⟨its, rv, ⟨⟨cls, dd, data, sl⟩, n, ho, hc, hdn, hd⟩, hlen⟩ := I.list hs
  simp only at hc hd
  subst hc hd
  have hi := bools_of rv
  refine call_meets PySem.F.slot_list_count ⟨_, ho, rfl⟩ PySem.F.entry_list_count (PySem.F.args_list_count_2 _ _)
    (SeqAt.list_countAt p its.toArray n dd sl (.bool true) isT) ⟨ho, fun y hy => ?_, ?_⟩
  · have hy' : y ∈ its := by simpa using hy
    rw [hi] at hy'
    obtain ⟨b, _, rfl⟩ := List.mem_map.mp hy'
    have e := eqAt_V (A := X.A.in1) (s := s) (y := .bl b) (x := .bl true) (u := .bool b) (v := .bool true) rfl rfl rfl rfl
    have e2 : eqV (.bl b) (.bl true) = isT (.bool b) := by cases b <;> rfl
    rw [e2] at e
    exact e
  · refine ⟨.int (bs.count true : Nat), H, I.tok _, ⟨s.toks, ?_⟩, q⟩
    have ec : its.toArray.toList.countP isT = bs.count true := by
      show its.countP isT = _
      rw [hi, List.countP_map, List.count]
      refine List.countP_congr fun b _ => ?_
      cases b <;> simp [isT]
    rw [ec]
def Kept (H : Hp) (a D : Addr) : Prop := (∃ d fs, H a = some (exk a (.ref D) (some d)) ∧ H d = some (.xd fs)) ∨ H a = some (exk a (.ref D) none)
theorem Kept.same {H H' : Hp} {a D : Addr} (s : Same H H') (h : Kept H a D) : Kept H' a D := by
  rcases h with ⟨d, fs, h1, h2⟩ | h1
  · exact .inl ⟨d, fs, s _ _ h1, s _ _ h2⟩
  · exact .inr (s _ _ h1)
def rIsE (K : PySem.W.Frag) : List V → Hp → VK → Prop := fun xs H Q => ∃ (a D : Addr) (c : V) (cv : Value) (b : Bool), xs = [.ref a, c] ∧ Kept H a D ∧ ExcC K D ∧ (∀ u, RelV c u → u = cv) ∧ PySem.W.kitOne K (.ref D) cv = some b ∧ Q (.bl b) H
theorem call_isE {X : Cx} : CallR X (.builtin "isinstance") (rIsE X.K) := by
  intro pins s σ H xs us Q I r h
  obtain ⟨a, D, c, cv, b, rfl, kp, C, hcv, e, q⟩ := h
  cases r with
  | cons rx rr =>
    cases rr with
    | cons rt rr =>
      cases rr
      cases rx
      have ec := hcv _ rt
      subst ec
      rcases kp with ⟨d, fs, ha, hd⟩ | ha
      · obtain ⟨oe, od, mA, J, _⟩ := inst_of I ha hd
        exact PySem.W.kia_one (exc_asked C) I.kIn J e (fun z => nomatch z) fun tk => ⟨.bl b, H, I.kept (t' := tk) fun _ _ z => z, rfl, q⟩
      · obtain ⟨oe, vs, he, hz, hv⟩ := exk_at I.hok ha
        have J : PySem.W.InstAt s.heap a oe D none := ⟨he, hz.1, by unfold PySem.W.notCls; rw [hv] <;> rfl, by rw [hz.2]; trivial⟩
        exact PySem.W.kia_one (exc_asked C) I.kIn J e (fun z => nomatch z) fun tk => ⟨.bl b, H, I.kept (t' := tk) fun _ _ z => z, rfl, q⟩
def kindW (j : Nat) : Str := (["line", "offer", "place", "text", "things"] : List Str).getD j "line"
/-- the five classes, and how the refusal of class D stands to them -/
structure Five (K : PySem.W.Frag) (mg : Str → Option Value) (cl CN cp ct ch CP : Addr) : Prop where
  l : mg "NoLine" = some (.ref cl)
  n : mg "NoOffer" = some (.ref CN)
  p : mg "NoPlace" = some (.ref cp)
  t : mg "NoText" = some (.ref ct)
  h : mg "NoThings" = some (.ref ch)
  g : mg "PackError" = some (.ref CP)
  v : mg "ValueError" = none
structure OneOf (K : PySem.W.Frag) (cl CN cp ct ch CP D : Addr) (j : Nat) : Prop where
  hj : j < 5
  exc : ExcC K D
  kl : PySem.W.kitOne K (.ref D) (.ref cl) = some (decide (0 = j))
  kn : PySem.W.kitOne K (.ref D) (.ref CN) = some (decide (1 = j))
  kpl : PySem.W.kitOne K (.ref D) (.ref cp) = some (decide (2 = j))
  kt : PySem.W.kitOne K (.ref D) (.ref ct) = some (decide (3 = j))
  kh : PySem.W.kitOne K (.ref D) (.ref ch) = some (decide (4 = j))
  kp : PySem.W.kitOne K (.ref D) (.ref CP) = some true
  kv : PySem.W.kitOne K (.ref D) (.type "ValueError") = some true
  ex : PySem.W.exmOne K (.ref D) (.ref CP) = some true
def sp_which (K : PySem.W.Frag) (cl CN cp ct ch CP : Addr) : Sp := fun vs H Q _ => ∃ (a D : Addr) (j : Nat), vs = [.ref a] ∧ Kept H a D ∧ OneOf K cl CN cp ct ch CP D j ∧ ∀ H', Same H H' → Q (.str (kindW j)) H'
theorem five_count {j : Nat} (h : j < 5) : ([decide (0 = j), decide (1 = j), decide (2 = j), decide (3 = j), decide (4 = j)].count true : Nat) = 1 := by
  match j, h with
  | 0, _ => rfl
  | 1, _ => rfl
  | 2, _ => rfl
  | 3, _ => rfl
  | 4, _ => rfl
theorem five_at {j : Nat} (h : j < 5) : [V.bl (decide (0 = j)), .bl (decide (1 = j)), .bl (decide (2 = j)), .bl (decide (3 = j)), .bl (decide (4 = j))][j]? = some (.bl true) ∧ ∀ m z, m < j → [V.bl (decide (0 = j)), .bl (decide (1 = j)), .bl (decide (2 = j)), .bl (decide (3 = j)), .bl (decide (4 = j))][m]? = some z → z = .bl false := by
  match j, h with
  | 0, _ => exact ⟨rfl, fun m z hm _ => by omega⟩
  | 1, _ => exact ⟨rfl, fun m z hm hz => by match m, hm with | 0, _ => exact (Option.some.inj hz).symm⟩
  | 2, _ => exact ⟨rfl, fun m z hm hz => by match m, hm with | 0, _ => exact (Option.some.inj hz).symm | 1, _ => exact (Option.some.inj hz).symm⟩
  | 3, _ => exact ⟨rfl, fun m z hm hz => by match m, hm with | 0, _ => exact (Option.some.inj hz).symm | 1, _ => exact (Option.some.inj hz).symm | 2, _ => exact (Option.some.inj hz).symm⟩
  | 4, _ => exact ⟨rfl, fun m z hm hz => by match m, hm with | 0, _ => exact (Option.some.inj hz).symm | 1, _ => exact (Option.some.inj hz).symm | 2, _ => exact (Option.some.inj hz).symm | 3, _ => exact (Option.some.inj hz).symm⟩
theorem kind_at {j : Nat} (h : j < 5) : [V.str "line", .str "offer", .str "place", .str "text", .str "things"][j]? = some (.str (kindW j)) := by
  match j, h with
  | 0, _ => rfl
  | 1, _ => rfl
  | 2, _ => rfl
  | 3, _ => rfl
  | 4, _ => rfl
section
variable {P : Program} {w : World} {K : PySem.W.Frag} {mg : Str → Option Value} {base : Heap} {T : List Addr} {cl C cp ct ch CP : Addr}
theorem ok_which {f : Addr} {fd : FuncData} {k : Nat} (M : Names mg) (Y : Five K mg cl C cp ct ch CP) (D : Def K mg "_law_which" s_law_which ["_law_e"] f fd) : FnOk P w K mg base CX0 (k + 1) f fd ["_law_e"] (sp_which K cl C cp ct ch CP) := by
  refine D.F.ok sc_law_which (fun vs H Q E h => ?_) (fun cdv A outer s H vs Q E hr h => ?_)
  · obtain ⟨a, D, j, rfl, _⟩ := h
    rfl
  · obtain ⟨a, D, j, rfl, ha, O, q⟩ := h
    have hj := O.hj
    refine ⟨_, pss_cons (ps_set (i := 1) sc_law_which.nd rfl (Or.inl rfl) (pe_lst (pa_cons (pe_callB (call_isE) (by rfl) M.isinstance (by decide +kernel) (pa_cons (pv 0) (pa_cons (pe_glob (v := .ref cl) (by rfl) Y.l rfl) pa_nil))) (pa_cons (pe_callB (call_isE) (by rfl) M.isinstance (by decide +kernel) (pa_cons (pv 0) (pa_cons (pe_glob (v := .ref C) (by rfl) Y.n rfl) pa_nil))) (pa_cons (pe_callB (call_isE) (by rfl) M.isinstance (by decide +kernel) (pa_cons (pv 0) (pa_cons (pe_glob (v := .ref cp) (by rfl) Y.p rfl) pa_nil))) (pa_cons (pe_callB (call_isE) (by rfl) M.isinstance (by decide +kernel) (pa_cons (pv 0) (pa_cons (pe_glob (v := .ref ct) (by rfl) Y.t rfl) pa_nil))) pa_nil))))))
      (pss_cons (ps_expr (pe_bm PySem.F.plainAttrs_list PySem.F.slot_list_append PySem.F.type_list_append mt_append (pv 1) (pa_cons (pe_callB (call_isE) (by rfl) M.isinstance (by decide +kernel) (pa_cons (pv 0) (pa_cons (pe_glob (v := .ref ch) (by rfl) Y.h rfl) pa_nil))) pa_nil)))
      (pss_cons (ps_if (PW.pt (pw_or (pt_not (pt_val (pe_callB (call_isE) (by rfl) M.isinstance (by decide +kernel) (pa_cons (pv 0) (pa_cons (pe_glob (v := .ref CP) (by rfl) Y.g rfl) pa_nil))))) (pw_or (pt_not (pt_val (pe_callB (call_isE) (by rfl) M.isinstance (by decide +kernel) (pa_cons (pv 0) (pa_cons (pe_bltn (v := .ty "ValueError") (by rfl) Y.v (by decide +kernel) rfl) pa_nil))))) (pw_or1 (pt_cmpR op_ne (pe_bm PySem.F.plainAttrs_list PySem.F.slot_list_count PySem.F.type_list_count mt_countB (pv 1) (pa_cons pe_bl pa_nil)) pe_int (nomark _))))))
        (pss_one (ps_ret pe_str)) pss_nil)
      (pss_one (ps_ret (pe_ix ix_list (pe_lst (pa_cons pe_str (pa_cons pe_str (pa_cons pe_str (pa_cons pe_str (pa_cons pe_str pa_nil)))))) (pe_bm PySem.F.plainAttrs_list PySem.F.slot_list_index PySem.F.type_list_index mt_index (pv 1) (pa_cons pe_bl pa_nil)) (fun _ _ => rfl)))))), ?_⟩
    refine ⟨_, rfl, a, D, _, _, _, rfl, ha, O.exc, fun u h => h, O.kl, _, rfl, a, D, _, _, _, rfl, ha, O.exc, fun u h => h, O.kn, _, rfl, a, D, _, _, _, rfl, ha, O.exc, fun u h => h, O.kpl, _, rfl, a, D, _, _, _, rfl, ha, O.exc, fun u h => h, O.kt, by show 4 ≤ sizeLine; decide, fun L nL => ?_⟩
    have s1 := same_upd (o := .lst [.bl (decide (0 = j)), .bl (decide (1 = j)), .bl (decide (2 = j)), .bl (decide (3 = j))]) nL
    have hL : upd H L (.lst [.bl (decide (0 = j)), .bl (decide (1 = j)), .bl (decide (2 = j)), .bl (decide (3 = j))]) L = some (.lst [.bl (decide (0 = j)), .bl (decide (1 = j)), .bl (decide (2 = j)), .bl (decide (3 = j))]) := upd_same
    generalize upd H L (.lst [.bl (decide (0 = j)), .bl (decide (1 = j)), .bl (decide (2 = j)), .bl (decide (3 = j))]) = H1 at s1 hL ⊢
    refine ⟨_, rfl, .inl ⟨rfl, _, SqL.of hL⟩, _, rfl, a, D, _, _, _, rfl, ha.same s1, O.exc, fun u h => h, O.kh, L, _, _, rfl, rfl, hL, by show 4 < sizeLine; decide, ?_⟩
    have s2 := sm_new (o := .lst ([.bl (decide (0 = j)), .bl (decide (1 = j)), .bl (decide (2 = j)), .bl (decide (3 = j))] ++ [.bl (decide (4 = j))])) s1 nL
    have hL2 : upd H1 L (.lst ([.bl (decide (0 = j)), .bl (decide (1 = j)), .bl (decide (2 = j)), .bl (decide (3 = j))] ++ [.bl (decide (4 = j))])) L = some (.lst [.bl (decide (0 = j)), .bl (decide (1 = j)), .bl (decide (2 = j)), .bl (decide (3 = j)), .bl (decide (4 = j))]) := upd_same
    generalize upd H1 L (.lst ([.bl (decide (0 = j)), .bl (decide (1 = j)), .bl (decide (2 = j)), .bl (decide (3 = j))] ++ [.bl (decide (4 = j))])) = H2 at s2 hL2 ⊢
    have ha2 := ha.same s2
    refine ⟨_, rfl, a, D, _, _, true, rfl, ha2, O.exc, fun u h => h, O.kp, true, rfl, ?_⟩
    refine ⟨_, rfl, a, D, _, _, true, rfl, ha2, O.exc, fun u h => h, O.kv, true, rfl, ?_⟩
    refine ⟨_, rfl, .inl ⟨rfl, _, SqL.of hL2⟩, L, [decide (0 = j), decide (1 = j), decide (2 = j), decide (3 = j), decide (4 = j)], rfl, rfl, SqL.of hL2, rfl, false, ?_, ?_⟩
    · rw [five_count hj]
      rfl
    refine ⟨by show 5 ≤ sizeLine; decide, fun W nW => ?_⟩
    have sW := same_upd (o := .lst [.str "line", .str "offer", .str "place", .str "text", .str "things"]) nW
    refine ⟨_, rfl, .inl ⟨rfl, _, SqL.of (sW _ _ hL2)⟩, L, _, .bl true, j, .bl true, rfl, rfl, SqL.of (sW _ _ hL2), rfl, rfl, (five_at hj).1, rfl, fun m z hm hz => ?_, ?_⟩
    · rw [(five_at hj).2 m z hm hz]
      rfl
    · exact ⟨W, _, _, _, rfl, rfl, SqL.of upd_same, atI_nat (j := j) (kind_at hj), q _ (s2.trans sW)⟩
end
/-! ### _law_told -/
abbrev s_law_told : Stmt := topS 49
abbrev N_law_told : List Str := ["_law_names_here", "_law_rows", "_law_whole", "_law_kept", "_law_found", "_law_e"]
theorem sc_law_told : FnScope N_law_told ["_law_names_here", "_law_rows", "_law_whole"] (defScope s_law_told) := ⟨rfl, rfl, rfl, by decide +kernel, rfl, by decide +kernel, by decide +kernel⟩

def spx_content (T : List Addr) (CT : Addr) : Sp := fun vs H Q E => sp_read_content T vs H Q E ∨ spa_read_content T CT vs H Q E
def sp_told (T : List Addr) : Sp := fun vs H Q _ => ∃ (a r : Addr) (wh : Bool) (xs rows : List Str), vs = [.ref a, .ref r, .bl wh] ∧ H a = some (LS xs) ∧ H r = some (LS rows) ∧ GoodN xs ∧ 1 ≤ rows.length ∧ rows.length ≤ 8 ∧ (∀ p ∈ rows, p.length ≤ 90000) ∧ Tb T H ∧
  (∀ ys H' p, Due tSI xs rows wh ys → Ext T H H' → H p = none → H' p = some (LS ys) → Q (.ref p) H')
/-- rows: all texts of offers, or the first that is none -/
theorem rows_ways (xs : List Str) : ∀ rows : List Str, (∃ os : List Ofr, rows = os.map (offerS xs) ∧ ∀ o ∈ os, ReadO xs o) ∨ ∃ n, AtNo xs rows n
  | [] => .inl ⟨[], rfl, fun o h => by cases h⟩
  | p :: r => by
    by_cases rd : ReadR xs p
    · obtain ⟨o, eo, ro⟩ := id rd
      rcases rows_ways xs r with ⟨os, e, h⟩ | ⟨n, ⟨p', e, nr⟩, low⟩
      · refine .inl ⟨o :: os, by rw [eo, e]; rfl, fun o' ho => ?_⟩
        rcases List.mem_cons.mp ho with rfl | ho
        · exact ro
        · exact h o' ho
      · refine .inr ⟨n + 1, ⟨p', e, nr⟩, fun j p'' hj hp => ?_⟩
        match j, hj, hp with
        | 0, _, hp => rw [← Option.some.inj hp]; exact rd
        | j + 1, hj, hp => exact low j p'' (by omega) hp
    · exact .inr ⟨0, ⟨p, rfl, rd⟩, fun j p' h => absurd h (Nat.not_lt_zero _)⟩
theorem told_at {H H' : Hp} {q : Addr} {us : List Addr} {os : List Ofr} {Ss : List (List Addr)} (td : Told H H' q us os Ss) : ShopAt H' q os := by
  refine ⟨us, td.atq, td.len, fun i v o h1 h2 => ?_⟩
  have hi : i < Ss.length := by
    rw [td.lenS]
    exact (List.getElem?_eq_some_iff.mp h2).1
  exact (td.each i v o _ h1 h2 (List.getElem?_eq_getElem hi)).at
section
variable {P : Program} {w : World} {K : PySem.W.Frag} {mg : Str → Option Value} {base : Heap} {T : List Addr} {cl CN cp ct ch CP : Addr} {fT : Addr} {fdT : FuncData}
theorem ok_told {f f1 f2 f3 : Addr} {fd fd1 fd2 fd3 : FuncData} {k : Nat} (M : Names mg) (Z : ExText K mg ct fT fdT) (Y : Five K mg cl CN cp ct ch CP) (O : OneOf K cl CN cp ct ch CP ct 3) (D : Def K mg "_law_told" s_law_told ["_law_names_here", "_law_rows", "_law_whole"] f fd)
    (D_law_which : Def K mg "_law_which" s_law_which ["_law_e"] f1 fd1) (G_law_which : FnOk P w K mg base CX0 k f1 fd1 ["_law_e"] (sp_which K cl CN cp ct ch CP))
    (D_read_shop : Def K mg "read_shop" s_read_shop ["names", "rows"] f2 fd2) (G_read_shop : FnOk P w K mg base (L2.CX P w) k f2 fd2 ["names", "rows"] (spx_read_shop T ct))
    (D_read_content : Def K mg "read_content" s_read_content ["names", "text"] f3 fd3) (G_read_content : FnOk P w K mg base (L2.CX P w) k f3 fd3 ["names", "text"] (spx_content T ct)) : FnOkG P w K mg base (k + 1) f fd ["_law_names_here", "_law_rows", "_law_whole"] (sp_told T) := by
  refine okG D.F sc_law_told (fun vs H Q E h => ?_) (fun cdv A outer s H vs Q E gd hr h => ?_)
  · obtain ⟨a, r, wh, xs, rows, rfl, _⟩ := h
    rfl
  · obtain ⟨a, r, wh, xs, rows, rfl, ha, hrr, g, h1, h8, hl, hT, q⟩ := h
    refine ⟨_, pss_cons (ps_set (i := 3) sc_law_told.nd rfl (Or.inl rfl) pe_non)
      (pss_cons (ps_set (i := 4) sc_law_told.nd rfl (Or.inl rfl) pe_non)
      (pss_cutI (ps_try_asK (i := 5) (tb := fun W => tIfS (tB (tVar 2)) (tAsg (tCallS (spx_read_shop T ct) (WE W) (tCons (tVar 0) (tCons (tVar 1) tNil))) (gName 4)) (tAsg (tCallS (spx_content T ct) (WE W) (tCons (tVar 0) (tCons (tOp (rIxL K) (tVar 1) (tC (.int 0))) tNil))) (gName 4))) (ts := tAsg (tVar 5) (gName 3)) (Wout := fun _ _ _ _ => False) rfl rfl rfl sc_law_told.nd rfl rfl ⟨rfl, by decide, Or.inl Y.g⟩ takes0
        (fun W pn xe tk _ => pss_one (ps_if (pt_val (pv 2)) (pss_one (ps_set (i := 4) sc_law_told.nd rfl (Or.inl rfl) (by exact (pe_callS G_read_shop hr (by rfl) D_read_shop.g D_read_shop.F.kp D_read_shop.b (fun σ => L2.passAt tk σ) (pa_cons (pv 0) (pa_cons (pv 1) pa_nil)))))) (pss_one (ps_set (i := 4) sc_law_told.nd rfl (Or.inl rfl) (by exact (pe_callS G_read_content hr (by rfl) D_read_content.g D_read_content.F.kp D_read_content.b (fun σ => L2.passAt tk σ) (pa_cons (pv 0) (pa_cons (pe_ix ix_list (pv 1) pe_int (fun _ _ => rfl)) pa_nil))))))))
        (fun a pn => pss_one (ps_set (i := 3) sc_law_told.nd rfl (Or.inl rfl) (by exact (pv 5)))))
      (pss_cons (ps_if (pt_cmpR op_isN (pv 3) pe_non (nomark _)) (pss_one (ps_ret (pe_lst (pa_cons pe_str (pa_cons (pe_callTy (cr_strD gd hr.units) (by rfl) M.str (by decide +kernel) (pa_cons (pv 4) pa_nil)) pa_nil))))) pss_nil)
      (pss_one (ps_ret (pe_lst (pa_cons (pe_call G_law_which hr (by rfl) D_law_which.g D_law_which.F.kp D_law_which.b .nil pass0 (pa_cons (pv 3) pa_nil)) (pa_cons (pe_callTy call_str_int (by rfl) M.str (by decide +kernel) (pa_cons (pe_xk (pv 3)) pa_nil)) pa_nil)))))))), ?_⟩
    obtain ⟨p0, hp0⟩ : ∃ p0, rows[0]? = some p0 := ⟨_, List.getElem?_eq_getElem (by omega)⟩
    refine ⟨fun σ' H' => (∃ (v : Addr) (d : PyData), σ' = [some (.ref a), some (.ref r), some (.bl wh), some .non, some (.ref v), none] ∧ Dp K H' (.ref v) d ∧ Sh 10000 d ∧ d.depth ≤ 60 ∧ Due tSI xs rows wh [("found" : Str), d.shown] ∧ Ext T H H') ∨
      ∃ (b e : Addr) (n : Nat), σ' = [some (.ref a), some (.ref r), some (.bl wh), some (.ref b), some .non, none] ∧ H' b = some (exk b (.ref ct) (some e)) ∧ H' e = some (.xd [("row", .int (n : Nat))]) ∧ n < 100 ∧ Due tSI xs rows wh [("text" : Str), tSI n] ∧ Ext T H H', ?_, fun σ' H' hI => ?_⟩
    · have out : ∀ {n : Nat}, n < 100 → Due tSI xs rows wh [("text" : Str), tSI n] → ∀ H' e, Ext T H H' → H e = none → H' e = some (.xd [("row", .int (n : Nat))]) → ∀ b, H' b = none → (∃ (b' e' : Addr) (n : Nat), [some (V.ref a), some (.ref r), some (.bl wh), some (.ref b), some .non, none] = [some (.ref a), some (.ref r), some (.bl wh), some (.ref b'), some .non, none] ∧ upd H' b (exk b (.ref ct) (some e)) b' = some (exk b' (.ref ct) (some e')) ∧ upd H' b (exk b (.ref ct) (some e)) e' = some (.xd [("row", .int (n : Nat))]) ∧ n < 100 ∧ Due tSI xs rows wh [("text" : Str), tSI n] ∧ Ext T H (upd H' b (exk b (.ref ct) (some e)))) := fun {n} hn du H' e E1 ne he b nb => by
        have nbe : e ≠ b := fun z => by rw [z, nb] at he; cases he
        exact ⟨b, e, n, rfl, upd_same, by rw [upd_ne nbe]; exact he, hn, du, E1.new (E1.free _ nb)⟩
      cases wh with
      | false =>
        refine ⟨_, rfl, false, rfl, ?_⟩
        refine ⟨_, rfl, _, rfl, r, _, _, _, rfl, rfl, SqL.of hrr, atI_nat (j := 0) (get_strs hp0), ?_⟩
        by_cases rc : ReadC xs p0
        · obtain ⟨cs, e, fc, hb⟩ := rc
          have sh := tell_abs g fc
          exact .inl ⟨a, xs, cs, by rw [e], ha, g, fc, hb, hT, fun H' p E1 np hp => .inl ⟨p, dInts cs, rfl, dp_ints (SqL.of hp), sh.mono (by decide), depth_intsL cs, .inl ⟨rfl, p0, hp0, .inl ⟨cs, e, fc, hb, rfl⟩⟩, E1⟩⟩
        · refine .inr ⟨a, xs, p0, rfl, ha, g, hl p0 (List.mem_of_getElem? hp0), hT, fun cs e fc hb => absurd ⟨cs, e, fc, hb⟩ rc, fun H' e E1 ne he => ?_⟩
          refine ⟨true, O.ex, fun _ b nb => ?_, fun z => Bool.noConfusion z⟩
          exact ⟨_, rfl, .inr (out (by decide) (.inl ⟨rfl, p0, hp0, .inr ⟨rc, rfl⟩⟩) H' e E1 ne he b nb)⟩
      | true =>
        refine ⟨_, rfl, true, rfl, ?_⟩
        refine ⟨_, rfl, _, rfl, a, r, xs, rows, rfl, ha, hrr, g, h8, hl, hT, fun os e ro H1 v us Ss E1 td => ?_, fun n p hp nr early H' e E1 ne he => ?_⟩
        · have lo : os.length = rows.length := by rw [e, List.length_map]
          have sh := sh_tells g ro (by omega)
          exact .inl ⟨v, dShop os, rfl, (told_at td).dp, sh, depth_shop os, .inr ⟨rfl, .inl ⟨os, e, ro, rfl⟩⟩, E1⟩
        · have ln := (List.getElem?_eq_some_iff.mp hp).1
          refine ⟨true, O.ex, fun _ b nb => ?_, fun z => Bool.noConfusion z⟩
          exact ⟨_, rfl, .inr (out (by omega) (.inr ⟨rfl, .inr ⟨n, ⟨⟨p, hp, nr⟩, early⟩, rfl⟩⟩) H' e E1 ne he b nb)⟩
    · rcases hI with ⟨v, d, rfl, dp, sh, dep, du, E1⟩ | ⟨b, e, n, rfl, hb, he, hn, du, E1⟩
      · refine ⟨_, rfl, rfl, true, rfl, _, rfl, v, d, rfl, dp, sh.ok, sh.nd, dep, szL (Nat.le_trans sh.len (by decide)), by show 2 ≤ sizeLine; decide, fun z nz => ?_⟩
        exact q _ _ z du (E1.new (E1.free _ nz)) (E1.free _ nz) upd_same
      · refine ⟨_, rfl, rfl, false, rfl, ?_⟩
        refine ⟨_, rfl, b, ct, 3, rfl, .inl ⟨e, _, hb, he⟩, O, fun H1 s1 => ⟨_, rfl, b, _, e, _, _, rfl, s1 _ _ hb, s1 _ _ he, Z.xf, Z.nr, rfl, _, rfl, lt100_log hn, by show 2 ≤ sizeLine; decide, fun z nz => ?_⟩⟩
        have E2 := E1.trans (Ext.same s1 E1.t1)
        exact q _ _ z du (E2.new (E2.free _ nz)) (E2.free _ nz) upd_same
end
/-! ### signs of data's texts -/
theorem int_signs (i : Int) : Signs (PyData.int i).shown := fun c hc => by
  by_cases z : c = 45 ∨ (48 ≤ c ∧ c ≤ 57)
  · omega
  · exact absurd hc (PyProof.Rows.shown_int_free' (k := c) (by omega) i)
theorem all_signs : ∀ {xs : List PyData}, (∀ x ∈ xs, Signs x.shown) → ∀ t ∈ PyData.shownAll xs, Signs t
  | [], _, t, h => by
    rw [show PyData.shownAll [] = [] by simp [PyData.shownAll]] at h
    cases h
  | x :: r, h, t, ht => by
    rw [PyData.shownAll_cons] at ht
    rcases List.mem_cons.mp ht with rfl | ht
    · exact h x List.mem_cons_self
    · exact all_signs (xs := r) (fun y hy => h y (List.mem_cons_of_mem _ hy)) t ht
theorem bracket_signs : Signs ("[" : Str) ∧ Signs ("]" : Str) ∧ Signs ("(" : Str) ∧ Signs (")" : Str) ∧ Signs (",)" : Str) := by
  unfold Signs
  decide +kernel
theorem list_signs {xs : List PyData} (h : ∀ x ∈ xs, Signs x.shown) : Signs (PyData.list xs).shown := by
  rw [PyData.shown_list]
  exact (bracket_signs.1.app (join_signs word_signs.2.2.2.2 (all_signs h))).app bracket_signs.2.1
theorem tuple_signs {xs : List PyData} (h : ∀ x ∈ xs, Signs x.shown) : Signs (PyData.tuple xs).shown := by
  rw [PyData.shown_tuple]
  refine (bracket_signs.2.2.1.app (join_signs word_signs.2.2.2.2 (all_signs h))).app ?_
  split
  · exact bracket_signs.2.2.2.2
  · exact bracket_signs.2.2.2.1
theorem ints_signs (ns : List Int) : Signs (dInts ns).shown := list_signs fun x hx => by
  obtain ⟨n, _, rfl⟩ := List.mem_map.mp hx
  exact int_signs n
theorem ofr_word_signs : Signs (PyData.str "pack").shown ∧ Signs (PyData.str "many").shown ∧ Signs (PyData.str "add").shown := by
  rw [PyData.shown_str, PyData.shown_str, PyData.shown_str]
  unfold Signs
  decide +kernel
theorem ofr_signs (o : Ofr) : Signs (dOfr o).shown := by
  cases o with
  | pack c p =>
    refine tuple_signs fun x hx => ?_
    simp only [List.mem_cons, List.not_mem_nil, or_false] at hx
    rcases hx with rfl | rfl | rfl
    · exact ofr_word_signs.1
    · exact ints_signs c
    · exact int_signs p
  | add c p k =>
    refine tuple_signs fun x hx => ?_
    simp only [List.mem_cons, List.not_mem_nil, or_false] at hx
    rcases hx with rfl | rfl | rfl | rfl
    · exact ofr_word_signs.2.2
    · exact ints_signs c
    · exact int_signs p
    · exact int_signs k
  | many c ts =>
    refine tuple_signs fun x hx => ?_
    simp only [List.mem_cons, List.not_mem_nil, or_false] at hx
    rcases hx with rfl | rfl | rfl
    · exact ofr_word_signs.2.1
    · exact ints_signs c
    · refine list_signs fun x hx => ?_
      obtain ⟨t, _, rfl⟩ := List.mem_map.mp hx
      refine tuple_signs fun x hx => ?_
      simp only [List.mem_cons, List.not_mem_nil, or_false] at hx
      rcases hx with rfl | rfl
      · exact int_signs _
      · exact int_signs _
theorem shop_shown_signs (os : List Ofr) : Signs (dShop os).shown := list_signs fun x hx => by
  obtain ⟨o, _, rfl⟩ := List.mem_map.mp hx
  exact ofr_signs o
theorem tSI_signs (n : Nat) : Signs (tSI n) := by
  have h := int_signs (n : Int)
  rw [PyData.shown_int] at h
  exact h
theorem due_words : Signs ("found" : Str) ∧ Signs ("text" : Str) := by
  unfold Signs
  decide +kernel
theorem Due.signs {xs rows : List Str} {wh : Bool} {ys : List Str} (h : Due tSI xs rows wh ys) : ∀ x ∈ ys, Signs x := by
  have two : ∀ {a b : Str}, Signs a → Signs b → ∀ x ∈ [a, b], Signs x := fun {a b} h1 h2 x hx => by
    simp only [List.mem_cons, List.not_mem_nil, or_false] at hx
    rcases hx with rfl | rfl
    · exact h1
    · exact h2
  rcases h with ⟨_, p, _, ⟨cs, _, _, _, rfl⟩ | ⟨_, rfl⟩⟩ | ⟨_, ⟨os, _, _, rfl⟩ | ⟨n, _, rfl⟩⟩
  · exact two due_words.1 (ints_signs cs)
  · exact two due_words.2 (tSI_signs 0)
  · exact two due_words.1 (shop_shown_signs os)
  · exact two due_words.2 (tSI_signs n)
/-! ### the law: texts bent, read by both -/
abbrev s_law : Stmt := topS 51
abbrev N_law : List Str := ["_law_script", "_law_draws_here", "_law_many", "_law_names_here", "_law_shop_here", "_law_turn", "_law_rows", "_law_whole", "_law_at", "_law_k", "_law_handed", "_law_offer"]
theorem sc_law : FnScope N_law ["_law_script"] (defScope s_law) := ⟨rfl, rfl, rfl, by decide +kernel, rfl, by decide +kernel, by decide +kernel⟩

/-- the lengths of texts bent k times -/
def bnd : Nat → Nat
  | 0 => 200
  | k + 1 => 7 * bnd k + 23
theorem bnd_ok {k : Nat} (h : k ≤ 3) : bnd k ≤ 80000 := by
  rcases k with _ | _ | _ | _ | k
  · decide
  · decide
  · decide
  · decide
  · omega
theorem shaped_two {xs ys : List Str} (h : ∀ x ∈ xs, Signs x) (h' : ∀ x ∈ ys, Signs x) : SeqAt.shaped (.list [.list (xs.map PyData.str), .list (ys.map PyData.str)]) = true := by
  unfold SeqAt.shaped
  have a := lay_strs xs h
  have b := lay_strs ys h'
  have c := depth_strs xs
  have d := depth_strs ys
  have h1 : PyData.canLay0 (.list [.list (xs.map PyData.str), .list (ys.map PyData.str)]) = true := by
    simp [PyData.canLay0, PyData.canLayAll0, a, b]
  have h2 : PyData.depth (.list [.list (xs.map PyData.str), .list (ys.map PyData.str)]) ≤ 64 := by
    simp only [PyData.depth, PyData.depthAll, c, d]
    omega
  rw [h1, decide_eq_true h2]
  rfl
theorem if_T {p q : Prop} (h : p) : if (true : Bool) = true then p else q := by rw [if_pos rfl]; exact h
theorem by_eqV {v v' : V} {P : V → Prop} (e : v = v') (h : P v') : P v := e ▸ h
structure St39 (T : List Addr) (d : Addr) (H0 H : Hp) : Prop where
  tt : Tb T H
  dd : ∃ ns, H d = some (LI ns)
  ke : Ke (cutH d H0) H
  free : ∀ b, H b = none → H0 b = none
section
variable {T : List Addr} {d : Addr} {H0 H H' : Hp}
theorem St39.but (h : St39 T d H0 H) (s : SameBut d H H') (hd : ∃ ns, H' d = some (LI ns)) : St39 T d H0 H' := by
  obtain ⟨ns, h0⟩ := h.dd
  exact ⟨tb_but s h0 h.tt, hd, fun b o hb m => s _ _ (cut_some hb).1 (h.ke b o hb m), fun b n => h.free b (by
    obtain ⟨ns', hd'⟩ := hd
    cases e : H b with
    | none => rfl
    | some o =>
      have n1 : b ≠ d := fun z => by rw [z, hd'] at n; cases n
      rw [s b o n1 e] at n
      cases n)⟩
theorem St39.ext (h : St39 T d H0 H) (e : Ext T H H') : St39 T d H0 H' := by
  obtain ⟨ns, h0⟩ := h.dd
  exact ⟨e.t1, ⟨ns, e.lst h0⟩, fun b o hb m => e.ext b o (h.ke b o hb m) m, fun b n => h.free b (e.free b n)⟩
theorem St39.set {R : Addr} {ls ls' : List V} (h : St39 T d H0 H) (n : H0 R = none) (nd : R ≠ d) (hR : H R = some (.lst ls)) (s : SameBut R H H') (hR' : H' R = some (.lst ls')) : St39 T d H0 H' := by
  obtain ⟨ns, h0⟩ := h.dd
  refine ⟨tb_but s hR h.tt, ⟨ns, s _ _ nd.symm h0⟩, fun b o hb m => s _ _ (fun z => ?_) (h.ke b o hb m), fun b nb => h.free b ?_⟩
  · have := (cut_some hb).2
    rw [z, n] at this
    cases this
  · cases e : H b with
    | none => rfl
    | some o =>
      have n1 : b ≠ R := fun z => by rw [z, hR'] at nb; cases nb
      rw [s b o n1 e] at nb
      cases nb
end
def sp_lawB (K : PySem.W.Frag) (T : List Addr) : Sp := fun vs H Q _ => ∃ (a : Addr) (ns : List Int), vs = [.ref a] ∧ SqL K H a (ns.map V.int) ∧ ns.length ≤ 63 ∧ Tb T H ∧ ∀ H', Q (.bl true) H'
section
variable {P : Program} {w : World} {K : PySem.W.Frag} {mg : Str → Option Value} {base : Heap} {T : List Addr}
theorem ok_lawB {f f1 f2 f3 f4 f7 f8 f9 f10 f11 f12 : Addr} {fd fd1 fd2 fd3 fd4 fd7 fd8 fd9 fd10 fd11 fd12 : FuncData} {k : Nat} (M : Names mg) (D : Def K mg "law" s_law ["_law_script"] f fd)
    (D_law_draws : Def K mg "_law_draws" s_law_draws ["_law_script", "_law_turn", "_law_many"] f1 fd1) (G_law_draws : FnOk P w K mg base CX0 k f1 fd1 ["_law_script", "_law_turn", "_law_many"] (sp_draws K))
    (D_law_pop : Def K mg "_law_pop" s_law_pop ["_law_draws_here"] f2 fd2) (G_law_pop : FnOk P w K mg base CX0 k f2 fd2 ["_law_draws_here"] sp_pop)
    (D_law_names : Def K mg "_law_names" s_law_names ["_law_draws_here", "_law_many"] f3 fd3) (G_law_names : FnOk P w K mg base CX0 k f3 fd3 ["_law_draws_here", "_law_many"] sp_law_names)
    (D_law_shop : Def K mg "_law_shop" s_law_shop ["_law_draws_here", "_law_many", "_law_most"] f4 fd4) (G_law_shop : FnOk P w K mg base CX0 k f4 fd4 ["_law_draws_here", "_law_many", "_law_most"] sp_shop)
    (D_law_offer_text : Def K mg "_law_offer_text" s_law_offer_text ["_law_names_here", "_law_offer"] f7 fd7) (G_law_offer_text : FnOk P w K mg base CX0 k f7 fd7 ["_law_names_here", "_law_offer"] sp_show_offer)
    (D_law_content_text : Def K mg "_law_content_text" s_law_content_text ["_law_names_here", "_law_content_here"] f8 fd8) (G_law_content_text : FnOk P w K mg base CX0 k f8 fd8 ["_law_names_here", "_law_content_here"] sp_law_text)
    (D_law_want : Def K mg "_law_want" s_law_want ["_law_draws_here", "_law_many"] f9 fd9) (G_law_want : FnOk P w K mg base CX0 k f9 fd9 ["_law_draws_here", "_law_many"] sp_want)
    (D_law_text_bent : Def K mg "_law_text_bent" s_law_text_bent ["_law_text", "_law_names_here", "_law_draws_here"] f10 fd10) (G_law_text_bent : FnOk P w K mg base CX0 k f10 fd10 ["_law_text", "_law_names_here", "_law_draws_here"] sp_text_bent)
    (D_law_told : Def K mg "_law_told" s_law_told ["_law_names_here", "_law_rows", "_law_whole"] f11 fd11) (G_law_told : FnOkG P w K mg base k f11 fd11 ["_law_names_here", "_law_rows", "_law_whole"] (sp_told T))
    (D_law_due : Def K mg "_law_due" s_law_due ["_law_names_here", "_law_rows", "_law_whole"] f12 fd12) (G_law_due : FnOkG P w K mg base k f12 fd12 ["_law_names_here", "_law_rows", "_law_whole"] sp_due) :
    FnOkG P w K mg base (k + 1) f fd ["_law_script"] (sp_lawB K T) := by
  refine okG D.F sc_law (fun vs H Q E h => ?_) (fun cdv A outer s H vs Q E gd hr h => ?_)
  · obtain ⟨a, ns, rfl, _⟩ := h
    rfl
  · obtain ⟨a, ns, rfl, hS0, hlen, hT, q⟩ := h
    refine ⟨_, (pss_cons (ps_set (i := 1) sc_law.nd rfl (Or.inl rfl) (pe_call G_law_draws hr (by rfl) D_law_draws.g D_law_draws.F.kp D_law_draws.b .nil pass0 (pa_cons (pv 0) (pa_cons pe_int (pa_cons pe_int pa_nil)))))
  (pss_cons (ps_set (i := 2) sc_law.nd rfl (Or.inl rfl) (pe_op op_add pe_int (pe_op op_mod (pe_call G_law_pop hr (by rfl) D_law_pop.g D_law_pop.F.kp D_law_pop.b .nil pass0 (pa_cons (pv 1) pa_nil)) pe_int)))
  (pss_cons (ps_set (i := 3) sc_law.nd rfl (Or.inr rfl) (pe_call G_law_names hr (by rfl) D_law_names.g D_law_names.F.kp D_law_names.b .nil pass0 (pa_cons (pv 1) (pa_cons (pv 2) pa_nil))))
  (pss_cons (ps_set (i := 4) sc_law.nd rfl (Or.inl rfl) (pe_call G_law_shop hr (by rfl) D_law_shop.g D_law_shop.F.kp D_law_shop.b .nil pass0 (pa_cons (pv 1) (pa_cons (pv 2) (pa_cons pe_int pa_nil)))))
  (pss_cons (ps_for PassesOwn.never rfl (pi_range1 (by rfl) M.range (pa_cons pe_int pa_nil)) (pg_name (i := 5) sc_law.nd rfl (Or.inl rfl))
   (pss_cons (ps_setLc (i := 6) (own := [("_law_offer", 11)]) (by rfl) sc_law.nd rfl rfl (sw_true rfl rfl rfl (by decide +kernel)) (pi_list (pv 4)) (blkOk_by (own := [("_law_offer", 11)]) (N := N_law) (sc := defScope s_law) (by decide +kernel)) (fun _ _ _ _ _ => (pg_name (i := 11) sc_law.nd rfl (Or.inl rfl))) (fun _ _ _ _ _ => pts_nil) (fun _ _ _ _ _ => (pe_call G_law_offer_text hr (by rfl) D_law_offer_text.g D_law_offer_text.F.kp D_law_offer_text.b .nil pass0 (pa_cons (pv 3) (pa_cons (pv 11) pa_nil)))))
  (pss_cons (ps_set (i := 7) sc_law.nd rfl (Or.inl rfl) (pe_cmpR op_gt (pe_op op_mod (pv 5) pe_int) pe_int (nomark _)))
  (pss_cutI (ps_if (PW.pt (pw_or (pt_not (pt_val (pv 7))) (pw_or1 (pt_cmpR (op_eqD hr.units) (pv 6) (pe_lst pa_nil) (nomark _)))))
   (pss_one (ps_set (i := 6) sc_law.nd rfl (Or.inl rfl) (pe_lst (pa_cons (pe_call G_law_content_text hr (by rfl) D_law_content_text.g D_law_content_text.F.kp D_law_content_text.b .nil pass0 (pa_cons (pv 3) (pa_cons (pe_call G_law_want hr (by rfl) D_law_want.g D_law_want.F.kp D_law_want.b .nil pass0 (pa_cons (pv 1) (pa_cons (pv 2) pa_nil))) pa_nil))) pa_nil))))
   pss_nil)
  (pss_cons (ps_set (i := 8) sc_law.nd rfl (Or.inl rfl) (pe_op op_mod (pe_call G_law_pop hr (by rfl) D_law_pop.g D_law_pop.F.kp D_law_pop.b .nil pass0 (pa_cons (pv 1) pa_nil)) (pe_callB call_len_seq (by rfl) M.len (by decide +kernel) (pa_cons (pv 6) pa_nil))))
  (pss_cons (ps_for PassesOwn.never rfl (pi_range1 (by rfl) M.range (pa_cons (pe_op op_add pe_int (pe_op op_mod (pe_call G_law_pop hr (by rfl) D_law_pop.g D_law_pop.F.kp D_law_pop.b .nil pass0 (pa_cons (pv 1) pa_nil)) pe_int)) pa_nil)) (pg_name (i := 9) sc_law.nd rfl (Or.inl rfl))
   (pss_one (ps_asg (pe_call G_law_text_bent hr (by rfl) D_law_text_bent.g D_law_text_bent.F.kp D_law_text_bent.b .nil pass0 (pa_cons (pe_ix ix_list (pv 6) (pv 8) (fun _ _ => rfl)) (pa_cons (pv 3) (pa_cons (pv 1) pa_nil)))) (pg_sub (pv 6) (pv 8) set_list))))
  (pss_cons (ps_set (i := 10) sc_law.nd rfl (Or.inl rfl) (pe_lst (pa_cons (pe_callTy call_list_of (by rfl) M.list (by decide +kernel) (pa_cons (pv 3) pa_nil)) (pa_cons (pe_callTy call_list_of (by rfl) M.list (by decide +kernel) (pa_cons (pv 6) pa_nil)) pa_nil))))
  (pss_one (ps_if (PW.pt (pw_or (pt_cmpR (op_neD hr.units) (pe_callG gd G_law_told hr (by rfl) D_law_told.g D_law_told.F.kp D_law_told.b (pa_cons (pe_ix ix_list (pv 10) pe_int (fun _ _ => rfl)) (pa_cons (pe_ix ix_list (pv 10) pe_int (fun _ _ => rfl)) (pa_cons (pv 7) pa_nil))) pass0) (pe_callG gd G_law_due hr (by rfl) D_law_due.g D_law_due.F.kp D_law_due.b (pa_cons (pv 3) (pa_cons (pv 6) (pa_cons (pv 7) pa_nil))) pass0) (nomark _)) (pw_or1 (pt_cmpR (op_neD hr.units) (pv 10) (pe_lst (pa_cons (pv 3) (pa_cons (pv 6) pa_nil))) (nomark _)))))
   (pss_one (ps_ret pe_bl))
   pss_nil)))))))))
  (pss_one (ps_ret pe_bl))))))), ?_⟩
    refine ⟨_, rfl, a, ns, 2, 200, rfl, hS0, by omega, by omega, by omega, fun H1 d ds s1 nd hd => ?_⟩
    have hT1 : Tb T H1 := tb_same s1 hT
    refine ⟨_, rfl, d, ds, rfl, hd, fun H2 s2 hd2 => ?_⟩
    have hT2 := tb_but s2 hd hT1
    generalize ds.headD 0 = x0
    generalize ds.tail = ds2 at hd2
    obtain ⟨m, hm1, hm4, em⟩ := draw4 x0
    refine ⟨_, _, rfl, rfl, (by show (0 : Int) < _; decide), _, _, rfl, rfl, ?_⟩
    refine ⟨_, rfl, _, rfl, d, _, m, by show [V.ref d, V.int (1 + x0 % 4)] = _; rw [em], hd2, hm1, hm4, fun H3 p xs ds3 s3 np npd hp hd3 hlx g => ?_⟩
    have hT3 := tb_but s3 hd2 hT2
    refine ⟨_, rfl, _, rfl, d, _, m, 4, by show [V.ref d, V.int (1 + x0 % 4), V.int 4] = _; rw [em]; rfl, hd3, hm1, hm4, by decide, fun H4 S os ds4 s4 nS hS4 good ft h6 hd4 => ?_⟩
    have hT4 := tb_but s4 hd3 hT3
    have hp4 := s4 _ _ npd hp
    have h8 := good.1
    have tellX : ∀ o ∈ os, TellO xs o := fun o ho => by
      obtain ⟨i, hi, e⟩ := List.getElem_of_mem ho
      exact tell_of (by omega) (good.2 i o (by rw [List.getElem?_eq_getElem hi, e])) (by rw [hlx]; exact ft o ho)
    have npd' : p ≠ d := npd
    have hp0 : cutH d H4 p = some (LS xs) := cut_put npd hp4
    have J0 : St39 T d H4 H4 := ⟨hT4, ⟨_, hd4⟩, fun b o hb _ => (cut_some hb).2, fun b n => n⟩
    clear hp4 hd4 hT4 s4 hd3 hp hT3 s3 hd2 hT2 s2 hT1 s1 hS0
    have eqvN : ∀ xs : List Str, PyData.eqv (.list (xs.map PyData.str)) (.list []) = decide (xs = []) := fun xs => by
      cases xs with
      | nil => rfl
      | cons a r => rfl
    refine ⟨_, rfl, by decide, by decide, for_range (n := 8) (fun _ σ H' => ∃ y5 y6 y7 y8 y9 y10 : Option V, σ = [some (.ref a), some (.ref d), some (.int (1 + x0 % 4)), some (.ref p), some (.ref S), y5, y6, y7, y8, y9, y10, none] ∧ St39 T d H4 H') ⟨_, _, _, _, _, _, rfl, J0⟩ (fun i σ G1 hi hp => ?_) (fun σ G1 hp => ?_)⟩
    · obtain ⟨y5, y6, y7, y8, y9, y10, rfl, J1⟩ := hp
      have hp1 := J1.ke _ _ hp0 (fun _ z => nomatch z)
      obtain ⟨vs, v1, v2, v3⟩ := hS4.ke J1.ke
      obtain ⟨ns1, hd1⟩ := J1.dd
      -- the rows
      refine ⟨_, rfl, S, rfl, ⟨_, SqL.of v1⟩, fun U nU => lc_list (xs := vs.map V.ref) (fun i H' => Same G1 H' ∧ H' U = some (LS ((os.take i).map (offerS xs)))) ⟨same_upd nU, upd_same⟩ (fun i H' _ hp => SqL.of (hp.1 _ _ v1)) (fun i x H7 hx hp => ?_) (fun G2 hp => ?_)⟩
      · obtain ⟨s7, hU⟩ := hp
        have hi : i < os.length := by
          have := (List.getElem?_eq_some_iff.mp hx).1
          rw [List.length_map] at this
          omega
        obtain ⟨v, o, g1, g2, g3⟩ := ShopAt.get (H := G1) (a := S) v2 hi
        have ex : x = .ref v := Option.some.inj (hx.symm.trans g3)
        subst ex
        refine ⟨rfl, _, rfl, _, rfl, p, v, xs, o, rfl, s7 _ _ hp1, (v3 i v o g1 g2).same s7, g, tellX o (List.mem_of_getElem? g2), fun H8 s8 => ?_⟩
        refine ⟨_, s8 _ _ hU, szL' (by rw [List.length_map, List.length_map, List.length_take]; omega), sm_new (s7.trans s8) nU, ?_⟩
        rw [upd_same, ls_app, take_succ_at g2, List.map_append]
        rfl
      obtain ⟨s12, hU⟩ := hp
      rw [List.length_map, v2, List.take_length] at hU
      have J2 := J1.ext (.same s12 J1.tt)
      have nU0 := J1.free _ nU
      have neU : U ≠ d := (ne_of_none hd1 nU).symm
      have lenO : ∀ t ∈ os.map (offerS xs), t.length ≤ 200 ∧ Signs t := fun t ht => by
        obtain ⟨o, ho, rfl⟩ := List.mem_map.mp ht
        exact ⟨(tellX o ho).len g, offer_signs g o⟩
      obtain ⟨wh, ewh⟩ : ∃ wh, decide ((0 : Int) < (0 + (i : Int)) % 3) = wh := ⟨_, rfl⟩
      have ewV : (fun i j : Int => V.bl (decide (j < i))) ((fun i j : Int => i % j) (0 + (i : Int)) 3) 0 = V.bl wh := congrArg V.bl ewh
      refine ⟨_, rfl, _, _, rfl, rfl, (by show (0 : Int) < _; decide), _, _, rfl, rfl, ?_⟩
      refine by_eqV ewV (P := fun v => gName 7 v _ _ _) ?_
      refine ⟨fun σ' H' => ∃ (R : Addr) (rows : List Str), σ' = [some (.ref a), some (.ref d), some (.int (1 + x0 % 4)), some (.ref p), some (.ref S), some (.int (0 + (i : Int))), some (.ref R), some (.bl wh), y8, y9, y10, none] ∧ St39 T d H4 H' ∧ H4 R = none ∧ R ≠ d ∧ H' R = some (LS rows) ∧ 1 ≤ rows.length ∧ rows.length ≤ 8 ∧ ∀ t ∈ rows, t.length ≤ 200 ∧ Signs t, ?_, fun σ' G3 hI => ?_⟩
      · have one : ∀ {G : Hp} {Qx : Ends}, St39 T d H4 G → (∀ (H' : Hp) (R : Addr) (t : Str), St39 T d H4 H' → H4 R = none → R ≠ d → H' R = some (LS [t]) → t.length ≤ 200 → Signs t → Qx.nx [some (.ref a), some (.ref d), some (.int (1 + x0 % 4)), some (.ref p), some (.ref S), some (.int (0 + (i : Int))), some (.ref R), some (.bl wh), y8, y9, y10, none] H') →
            tAsg (tLst (tCons (tCall sp_law_text [] L2.E0 (tCons (tVar 3) (tCons (tCall sp_want [] L2.E0 (tCons (tVar 1) (tCons (tVar 2) tNil))) tNil))) tNil)) (gName 6) Qx [some (.ref a), some (.ref d), some (.int (1 + x0 % 4)), some (.ref p), some (.ref S), some (.int (0 + (i : Int))), some (.ref U), some (.bl wh), y8, y9, y10, none] G := fun {G Qx} J k => by
          obtain ⟨ns2, hd2⟩ := J.dd
          refine ⟨_, rfl, _, rfl, _, rfl, d, ns2, m, by show [V.ref d, V.int (1 + x0 % 4)] = _; rw [em], hd2, hm1, hm4, fun G5 w ws ns5 s5 nw nwd hw hd5 lw sm cas => ?_⟩
          have J5 := J.but s5 ⟨_, hd5⟩
          have fc : FitC xs ws := ⟨lw.trans hlx.symm, sm⟩
          refine ⟨p, w, xs, ws, rfl, J5.ke _ _ hp0 (fun _ z => nomatch z), hw, g, fc, fun G6 s6 => ?_⟩
          have J6 := J5.ext (.same s6 J5.tt)
          refine ⟨by show 1 ≤ sizeLine; decide, fun R nR => ?_⟩
          obtain ⟨ns6, hd6⟩ := J6.dd
          have l := show_len g fc
          exact k _ R (showM xs ws) (J6.ext (.same (same_upd nR) J6.tt)) (J6.free _ nR) (ne_of_none hd6 nR).symm upd_same (by omega) (show_ok g ws)
        have done : ∀ {R : Addr} {t : Str} {H' : Hp}, St39 T d H4 H' → H4 R = none → R ≠ d → H' R = some (LS [t]) → t.length ≤ 200 → Signs t → ∃ (R' : Addr) (rows : List Str), [some (V.ref a), some (.ref d), some (.int (1 + x0 % 4)), some (.ref p), some (.ref S), some (.int (0 + (i : Int))), some (.ref R), some (.bl wh), y8, y9, y10, none] = [some (.ref a), some (.ref d), some (.int (1 + x0 % 4)), some (.ref p), some (.ref S), some (.int (0 + (i : Int))), some (.ref R'), some (.bl wh), y8, y9, y10, none] ∧ St39 T d H4 H' ∧ H4 R' = none ∧ R' ≠ d ∧ H' R' = some (LS rows) ∧ 1 ≤ rows.length ∧ rows.length ≤ 8 ∧ ∀ t ∈ rows, t.length ≤ 200 ∧ Signs t := fun {R t H'} JR n1 n2 hR l sg => ⟨R, [t], rfl, JR, n1, n2, hR, Nat.le_refl 1, (by show 1 ≤ 8; decide), fun t' ht => by rw [List.mem_singleton.mp ht]; exact ⟨l, sg⟩⟩
        refine ⟨_, rfl, wh, rfl, ?_⟩
        cases wh with
        | false =>
          refine if_T ?_
          refine if_T ?_
          exact one J2 fun H' R t JR n1 n2 hR l sg => done JR n1 n2 hR l sg
        | true =>
          refine ⟨_, rfl, Nat.zero_le _, fun e ne => ?_⟩
          have se := same_upd (o := .lst []) ne
          have he : upd G2 e (.lst []) e = some (.lst []) := upd_same
          have JE := J2.ext (.same se J2.tt)
          have hUe := se _ _ hU
          generalize upd G2 e (.lst []) = GE at he JE hUe ⊢
          refine ⟨_, .list [], dp_strs (SqL.of hUe), .lst (SqL.of he) .nil, shaped_strs (offers_signs g os), by decide +kernel, ?_⟩
          rw [eqvN]
          by_cases ze : os.map (offerS xs) = []
          · refine ⟨true, by rw [decide_eq_true ze], ?_⟩
            exact one JE fun H' R t JR n1 n2 hR l sg => done JR n1 n2 hR l sg
          · refine ⟨false, by rw [decide_eq_false ze], ?_⟩
            exact ⟨U, os.map (offerS xs), rfl, JE, nU0, neU, hUe, List.length_pos_iff.mpr ze, by rw [List.length_map]; exact h8, lenO⟩
      obtain ⟨R, rows, rfl, J3, nR0, nRd, hR3, r1, r8, rl⟩ := hI
      -- which row is bent
      obtain ⟨ns3, hd3⟩ := J3.dd
      refine ⟨_, rfl, d, ns3, rfl, hd3, fun G4 s4 hd4 => ?_⟩
      have J4 := J3.but s4 ⟨_, hd4⟩
      have hR4 := s4 _ _ nRd hR3
      refine ⟨_, rfl, R, _, rfl, .inl (SqL.of hR4), _, _, rfl, rfl, (by show (0 : Int) < ((rows.map V.str).length : Nat); rw [List.length_map]; omega), ?_⟩
      obtain ⟨at_, hat, eat⟩ := mod_at (i := ns3.headD 0) (n := rows.length) r1
      have eat' : ns3.headD 0 % (((rows.map V.str).length : Nat) : Int) = (at_ : Int) := by rw [List.length_map]; exact eat
      obtain ⟨ns4, hd4'⟩ := J4.dd
      obtain ⟨cnt, hcnt, ecnt⟩ := mod_at (i := ns4.headD 0) (n := 3) (by decide)
      refine ⟨_, rfl, d, ns4, rfl, hd4', fun G4b s4b hd4b => ?_⟩
      have J4b := J4.but s4b ⟨_, hd4b⟩
      have hR4b := s4b _ _ nRd hR4
      refine ⟨_, _, rfl, rfl, (by show (0 : Int) < 3; decide), _, _, rfl, rfl, ?_⟩
      refine ⟨((1 + cnt : Nat) : Int), (by show [V.int (1 + ns4.headD 0 % 3)] = _; rw [show ns4.headD 0 % 3 = (cnt : Int) from ecnt]; exact congrArg (fun z : Int => [V.int z]) (by omega)), by omega, by omega, for_range (n := ((1 + cnt : Nat) : Int).toNat) (fun k σ H' => ∃ (y9 : Option V) (rows' : List Str), σ = [some (.ref a), some (.ref d), some (.int (1 + x0 % 4)), some (.ref p), some (.ref S), some (.int (0 + (i : Int))), some (.ref R), some (.bl wh), some (.int (ns3.headD 0 % (((rows.map V.str).length : Nat) : Int))), y9, y10, none] ∧ St39 T d H4 H' ∧ H' R = some (LS rows') ∧ rows'.length = rows.length ∧ ∀ t ∈ rows', t.length ≤ bnd k ∧ Signs t) ⟨y9, rows, rfl, J4b, hR4b, rfl, rl⟩ (fun k σ G5 hk hp => ?_) (fun σ G5 hp => ?_)⟩
      · obtain ⟨y9, rows', rfl, J5, hR5, lr, bl⟩ := hp
        obtain ⟨ns5, hd5⟩ := J5.dd
        have hat' : at_ < rows'.length := by omega
        have hk3 : k ≤ 3 := by omega
        obtain ⟨bt, bs⟩ := bl _ (List.getElem_mem hat')
        have b8 := bnd_ok hk3
        refine ⟨_, rfl, _, rfl, R, _, _, _, rfl, rfl, SqL.of hR5, at_of eat' (get_strs (List.getElem?_eq_getElem hat')), _, rfl, _, rfl, rows'[at_], p, d, xs, ns5, rfl, by omega, npd', J5.ke _ _ hp0 (fun _ z => nomatch z), g, bs, hd5, fun G6 tx' ns6 s6 hd6 l6 sg6 => ?_⟩
        have J6 := J5.but s6 ⟨_, hd6⟩
        have hR6 := s6 _ _ nRd hR5
        refine ⟨_, rfl, _, rfl, R, _, _, at_, rfl, rfl, hR6, (by rw [eat']; exact ixN_nat (by rw [List.length_map]; exact hat')), ?_⟩
        have eset : (rows'.map V.str).set at_ (.str tx') = (rows'.set at_ tx').map V.str := by rw [List.map_set]
        refine ⟨_, rows'.set at_ tx', rfl, J6.set nR0 nRd hR6 .upd upd_same, by rw [upd_same, eset], by rw [List.length_set]; exact lr, fun t ht => ?_⟩
        rcases List.mem_or_eq_of_mem_set ht with h | h
        · obtain ⟨h1, h2⟩ := bl t h
          refine ⟨?_, h2⟩
          show t.length ≤ 7 * bnd k + 23
          omega
        · rw [h]
          refine ⟨?_, sg6⟩
          show tx'.length ≤ 7 * bnd k + 23
          omega
      obtain ⟨y9', rows', rfl, J5, hR5, lr, bl⟩ := hp
      have bl' : ∀ t ∈ rows', t.length ≤ 90000 ∧ Signs t := fun t ht => by
        obtain ⟨h1, h3⟩ := bl t ht
        have h2 := bnd_ok (k := ((1 + cnt : Nat) : Int).toNat) (by omega)
        exact ⟨by omega, h3⟩
      have hp5 := J5.ke _ _ hp0 (fun _ z => nomatch z)
      have sgx : ∀ x ∈ xs, Signs x := fun x hx c hc => by
        have := g.small x hx c hc
        omega
      -- handed
      refine ⟨_, rfl, p, _, rfl, .inl (SqL.of hp5), fun h1 nh1 => ?_⟩
      have sA := same_upd (o := .lst (xs.map V.str)) nh1
      refine ⟨_, rfl, R, _, rfl, .inl (SqL.of (sA _ _ hR5)), fun h2 nh2 => ⟨by show 2 ≤ sizeLine; decide, fun hh nhh => ?_⟩⟩
      have sB := same_upd (o := .lst (rows'.map V.str)) nh2
      have sC := same_upd (o := .lst [.ref h1, .ref h2]) nhh
      have e1 := sC _ _ (sB _ _ (show upd G5 h1 (.lst (xs.map V.str)) h1 = some (LS xs) from upd_same))
      have e2 := sC _ _ (show upd (upd G5 h1 (.lst (xs.map V.str))) h2 (.lst (rows'.map V.str)) h2 = some (LS rows') from upd_same)
      have e3 : upd (upd (upd G5 h1 (.lst (xs.map V.str))) h2 (.lst (rows'.map V.str))) hh (.lst [.ref h1, .ref h2]) hh = some (.lst [.ref h1, .ref h2]) := upd_same
      have J6 := J5.ext (.same ((sA.trans sB).trans sC) J5.tt)
      have hp6 := ((sA.trans sB).trans sC) _ _ hp5
      have hR6 := ((sA.trans sB).trans sC) _ _ hR5
      generalize upd (upd (upd G5 h1 (.lst (xs.map V.str))) h2 (.lst (rows'.map V.str))) hh (.lst [.ref h1, .ref h2]) = G6 at e1 e2 e3 J6 hp6 hR6 ⊢
      refine ⟨_, rfl, hh, _, _, _, rfl, rfl, SqL.of e3, atI_nat (j := 0) rfl, _, rfl, hh, _, _, _, rfl, rfl, SqL.of e3, atI_nat (j := 1) rfl, _, rfl, h1, h2, wh, xs, rows', rfl, e1, e2, g, by omega, by omega, fun t ht => (bl' t ht).1, J6.tt, fun ys G7 t1 du1 E7 nt1 ht1 => ?_⟩
      have J7 := J6.ext E7
      refine ⟨_, rfl, _, rfl, _, rfl, p, R, wh, xs, rows', rfl, E7.lst hp6, E7.lst hR6, g, by omega, by omega, bl', fun zs G8 t2 du2 s8 nt2 ht2 => ?_⟩
      have E8 : Ext T G7 G8 := .same s8 J7.tt
      have J8 := J7.ext E8
      have E68 := E7.trans E8
      have eyz := du1.uniq g du2
      subst eyz
      have sy := shaped_strs du1.signs
      refine ⟨_, _, dp_strs (SqL.of (s8 _ _ ht1)), dp_strs (SqL.of ht2), sy, sy, false, by rw [eqv_self sy]; rfl, ?_⟩
      refine ⟨_, rfl, _, rfl, _, rfl, by show 2 ≤ sizeLine; decide, fun w nw => ?_⟩
      have sW := same_upd (o := .lst [.ref p, .ref R]) nw
      have s2 := shaped_two sgx (fun t ht => (bl' t ht).2)
      have J9 := J8.ext (.same sW J8.tt)
      refine ⟨.list [.list (xs.map PyData.str), .list (rows'.map PyData.str)], .list [.list (xs.map PyData.str), .list (rows'.map PyData.str)], .lst (SqL.of (sW _ _ (E68.lst e3))) (.cons (dp_strs (SqL.of (sW _ _ (E68.lst e1)))) (.cons (dp_strs (SqL.of (sW _ _ (E68.lst e2)))) .nil)), .lst (SqL.of upd_same) (.cons (dp_strs (SqL.of (sW _ _ (E68.lst hp6)))) (.cons (dp_strs (SqL.of (sW _ _ (E68.lst hR6)))) .nil)), s2, s2, false, by rw [eqv_self s2]; rfl, ?_⟩
      exact ⟨_, _, _, _, _, _, rfl, J9⟩
    · exact q _
end
/-! ### two promises of one def; what never raises -/
theorem FnOk.or {P : Program} {w : World} {K : PySem.W.Frag} {mg : Str → Option Value} {base : Heap} {CX : CXT} {k : Nat} {f : Addr} {fd : FuncData} {ps : List Str} {sp sp' : Sp} (F : FnOk P w K mg base CX k f fd ps sp) (F' : FnOk P w K mg base CX k f fd ps sp') :
    FnOk P w K mg base CX k f fd ps (fun vs H Q E => sp vs H Q E ∨ sp' vs H Q E) :=
  ⟨fun vs H Q E h => h.elim (F.len vs H Q E) (F'.len vs H Q E), fun A outer s H args us vs Q E hr he hb hv hs => hs.elim (F.run A outer s H args us vs Q E hr he hb hv) (F'.run A outer s H args us vs Q E hr he hb hv)⟩
theorem FnOk.lift {P : Program} {w : World} {K : PySem.W.Frag} {mg : Str → Option Value} {base : Heap} {CX : CXT} {k : Nat} {f : Addr} {fd : FuncData} {ps : List Str} {sp : Sp} (F : FnOk P w K mg base CX0 k f fd ps sp) : FnOk P w K mg base CX k f fd ps sp :=
  ⟨F.len, fun A outer s H args us vs Q E hr he hb hv hs => codeAny_mono (F.run A outer s H args us vs Q E hr he hb hv hs) fun r s' h => by
    cases r with
    | error e => exact h.elim
    | ok fl => cases fl <;> exact h⟩
/-! ### the law, from what the top has written -/
theorem FnOkG.imp {P : Program} {w : World} {K : PySem.W.Frag} {mg : Str → Option Value} {base : Heap} {k : Nat} {f : Addr} {fd : FuncData} {ps : List Str} {sp sp' : Sp} (F : FnOkG P w K mg base k f fd ps sp) (i : ∀ vs H Q E, sp' vs H Q E → sp vs H Q E) : FnOkG P w K mg base k f fd ps sp' :=
  ⟨fun vs H Q E h => F.count vs H Q E (i _ _ _ _ h), fun A out s H args us vs Q E gd hr he hb hv hs => F.go A out s H args us vs Q E gd hr he hb hv (i _ _ _ _ hs)⟩
-- used defs only
def sp_law (K : PySem.W.Frag) (t1 : Addr) : Sp := fun vs H Q _ => ∃ (a : Addr) (ns : List Int), vs = [.ref a] ∧ SqL K H a (ns.map V.int) ∧ ns.length ≤ 63 ∧ GxR.TabG H t1 ∧ ∀ H', Q (.bl true) H'
section
variable {P : Program} {w : World} {K : PySem.W.Frag} {mg : Str → Option Value} {base : Heap}
theorem ok_law {f f_show_content f_made_of f_read_number f_within_bounds f_read_thing f_read_content f_read_goods f_read_sold f_read_tier f_read_many f_read_add f_read_offer f_read_shop f_law_draws f_law_pop f_law_want f_law_cases f_law_content f_law_price f_law_tiers f_law_shop f_law_names f_law_content_text f_law_offer_text f_law_number_of f_law_content_of f_law_priced_of f_law_pack_of f_law_many_of f_law_offer_of f_law_sign_bent f_law_word_bent f_law_text_bent f_law_which f_law_told f_law_due c1 t1 cl CN cp ct ch CP fI fT : Addr} {fd fd_show_content fd_made_of fd_read_number fd_within_bounds fd_read_thing fd_read_content fd_read_goods fd_read_sold fd_read_tier fd_read_many fd_read_add fd_read_offer fd_read_shop fd_law_draws fd_law_pop fd_law_want fd_law_cases fd_law_content fd_law_price fd_law_tiers fd_law_shop fd_law_names fd_law_content_text fd_law_offer_text fd_law_number_of fd_law_content_of fd_law_priced_of fd_law_pack_of fd_law_many_of fd_law_offer_of fd_law_sign_bent fd_law_word_bent fd_law_text_bent fd_law_which fd_law_told fd_law_due fdI fdT : FuncData} (M : Names mg) (D : Def K mg "law" s_law ["_law_script"] f fd)
    (D_show_content : Def K mg "show_content" s_show_content ["names", "content"] f_show_content fd_show_content)
    (D_made_of : Def K mg "made_of" s_made_of ["signs", "text", "most"] f_made_of fd_made_of)
    (D_read_number : Def K mg "read_number" s_read_number ["text", "figures"] f_read_number fd_read_number)
    (D_within_bounds : Def K mg "within_bounds" s_within_bounds ["content"] f_within_bounds fd_within_bounds)
    (D_read_thing : Def K mg "read_thing" s_read_thing ["names", "text"] f_read_thing fd_read_thing)
    (D_read_content : Def K mg "read_content" s_read_content ["names", "text"] f_read_content fd_read_content)
    (D_read_goods : Def K mg "read_goods" s_read_goods ["names", "text"] f_read_goods fd_read_goods)
    (D_read_sold : Def K mg "read_sold" s_read_sold ["names", "text"] f_read_sold fd_read_sold)
    (D_read_tier : Def K mg "read_tier" s_read_tier ["text"] f_read_tier fd_read_tier)
    (D_read_many : Def K mg "read_many" s_read_many ["names", "text"] f_read_many fd_read_many)
    (D_read_add : Def K mg "read_add" s_read_add ["names", "text"] f_read_add fd_read_add)
    (D_read_offer : Def K mg "read_offer" s_read_offer ["names", "text"] f_read_offer fd_read_offer)
    (D_read_shop : Def K mg "read_shop" s_read_shop ["names", "rows"] f_read_shop fd_read_shop)
    (D_law_draws : Def K mg "_law_draws" s_law_draws ["_law_script", "_law_turn", "_law_many"] f_law_draws fd_law_draws)
    (D_law_pop : Def K mg "_law_pop" s_law_pop ["_law_draws_here"] f_law_pop fd_law_pop)
    (D_law_want : Def K mg "_law_want" s_law_want ["_law_draws_here", "_law_many"] f_law_want fd_law_want)
    (D_law_cases : Def K mg "_law_cases" s_law_cases ["_law_want_here"] f_law_cases fd_law_cases)
    (D_law_content : Def K mg "_law_content" s_law_content ["_law_draws_here", "_law_many"] f_law_content fd_law_content)
    (D_law_price : Def K mg "_law_price" s_law_price ["_law_draws_here"] f_law_price fd_law_price)
    (D_law_tiers : Def K mg "_law_tiers" s_law_tiers ["_law_draws_here"] f_law_tiers fd_law_tiers)
    (D_law_shop : Def K mg "_law_shop" s_law_shop ["_law_draws_here", "_law_many", "_law_most"] f_law_shop fd_law_shop)
    (D_law_names : Def K mg "_law_names" s_law_names ["_law_draws_here", "_law_many"] f_law_names fd_law_names)
    (D_law_content_text : Def K mg "_law_content_text" s_law_content_text ["_law_names_here", "_law_content_here"] f_law_content_text fd_law_content_text)
    (D_law_offer_text : Def K mg "_law_offer_text" s_law_offer_text ["_law_names_here", "_law_offer"] f_law_offer_text fd_law_offer_text)
    (D_law_number_of : Def K mg "_law_number_of" s_law_number_of ["_law_text", "_law_most"] f_law_number_of fd_law_number_of)
    (D_law_content_of : Def K mg "_law_content_of" s_law_content_of ["_law_names_here", "_law_text"] f_law_content_of fd_law_content_of)
    (D_law_priced_of : Def K mg "_law_priced_of" s_law_priced_of ["_law_text"] f_law_priced_of fd_law_priced_of)
    (D_law_pack_of : Def K mg "_law_pack_of" s_law_pack_of ["_law_names_here", "_law_text"] f_law_pack_of fd_law_pack_of)
    (D_law_many_of : Def K mg "_law_many_of" s_law_many_of ["_law_names_here", "_law_text"] f_law_many_of fd_law_many_of)
    (D_law_offer_of : Def K mg "_law_offer_of" s_law_offer_of ["_law_names_here", "_law_text"] f_law_offer_of fd_law_offer_of)
    (D_law_sign_bent : Def K mg "_law_sign_bent" s_law_sign_bent ["_law_text", "_law_draws_here"] f_law_sign_bent fd_law_sign_bent)
    (D_law_word_bent : Def K mg "_law_word_bent" s_law_word_bent ["_law_text", "_law_names_here", "_law_draws_here"] f_law_word_bent fd_law_word_bent)
    (D_law_text_bent : Def K mg "_law_text_bent" s_law_text_bent ["_law_text", "_law_names_here", "_law_draws_here"] f_law_text_bent fd_law_text_bent)
    (D_law_which : Def K mg "_law_which" s_law_which ["_law_e"] f_law_which fd_law_which)
    (D_law_told : Def K mg "_law_told" s_law_told ["_law_names_here", "_law_rows", "_law_whole"] f_law_told fd_law_told)
    (D_law_due : Def K mg "_law_due" s_law_due ["_law_names_here", "_law_rows", "_law_whole"] f_law_due fd_law_due)
    (hc2 : fd_made_of.code = .ref c1) (TB2 : GxR.TabB base mg c1 t1) (XN : Exs K mg CN CP fI fdI) (Z : ExText K mg ct fT fdT) (xtt : PySem.W.exmOne K (.ref ct) (.ref ct) = some true) (Y : Five K mg cl CN cp ct ch CP) (O : OneOf K cl CN cp ct ch CP ct 3) :
    FnOkG P w K mg base 12 f fd ["_law_script"] (sp_law K t1) := by
  have m2 : t1 ∈ [t1] := List.mem_cons_self
  have RC : ∀ k, FnOk P w K mg base CX0 (k + 4) f_read_content fd_read_content ["names", "text"] (sp_read_content [t1]) := fun k => ok_read_content M D_read_content D_read_thing D_show_content D_within_bounds D_read_number D_made_of hc2 TB2 m2
  have RN : ∀ k, FnOk P w K mg base CX0 (k + 2) f_read_number fd_read_number ["text", "figures"] (sp_read_number [t1]) := fun k => ok_read_number M D_read_number D_made_of hc2 TB2 m2
  have RG : ∀ k, FnOk P w K mg base CX0 (k + 5) f_read_goods fd_read_goods ["names", "text"] (sp_read_goods [t1]) := fun k => ok_read_goods M D_read_goods D_read_content (RC k)
  have RT : ∀ k, FnOk P w K mg base CX0 (k + 5) f_read_tier fd_read_tier ["text"] (sp_read_tier [t1]) := fun k => ok_read_tier M D_read_tier D_read_number (RN (k + 2))
  have RS : ∀ k, FnOk P w K mg base CX0 (k + 6) f_read_sold fd_read_sold ["names", "text"] (sp_read_sold [t1]) := fun k => ok_read_sold M D_read_sold D_read_goods (RG k) D_read_number (RN (k + 3))
  have RM : ∀ k, FnOk P w K mg base CX0 (k + 6) f_read_many fd_read_many ["names", "text"] (sp_read_many [t1]) := fun k => ok_read_many M D_read_many D_read_goods (RG k) D_read_tier (RT k)
  have RA : ∀ k, FnOk P w K mg base CX0 (k + 7) f_read_add fd_read_add ["names", "text"] (sp_read_add [t1]) := fun k => ok_read_add M D_read_add D_read_sold (RS k) D_read_number (RN (k + 4))
  have RO : ∀ k, FnOk P w K mg base CX0 (k + 8) f_read_offer fd_read_offer ["names", "text"] (sp_read_offer [t1]) := fun k => ok_read_offer M D_read_offer D_read_many (RM (k + 1)) D_read_add (RA k) D_read_sold (RS (k + 1))
  -- of any text
  have AN : ∀ k, FnOk P w K mg base (L2N.CX P w) (k + 3) f_read_number fd_read_number ["text", "figures"] (spa_read_number [t1] ct) := fun k => oka_read_number M XN Z D_read_number D_made_of hc2 TB2 m2
  have AC : ∀ k, FnOk P w K mg base (L2N.CX P w) (k + 5) f_read_content fd_read_content ["names", "text"] (spa_read_content [t1] ct) := fun k => oka_read_content M XN Z D_read_content D_read_thing (oka_read_thing M XN Z D_read_thing D_read_number (AN k)) D_show_content D_within_bounds
  have AG : ∀ k, FnOk P w K mg base (L2N.CX P w) (k + 6) f_read_goods fd_read_goods ["names", "text"] (spa_read_goods [t1] ct) := fun k => oka_read_goods M XN Z D_read_goods D_read_content (AC k)
  have AS : ∀ k, FnOk P w K mg base (L2N.CX P w) (k + 7) f_read_sold fd_read_sold ["names", "text"] (spa_read_sold [t1] ct) := fun k => oka_read_sold M D_read_sold D_read_goods (AG k) D_read_number (AN (k + 3))
  have AT : ∀ k, FnOk P w K mg base (L2N.CX P w) (k + 4) f_read_tier fd_read_tier ["text"] (spa_read_tier [t1] ct) := fun k => oka_read_tier M D_read_tier D_read_number (AN k)
  have AM : ∀ k, FnOk P w K mg base (L2N.CX P w) (k + 7) f_read_many fd_read_many ["names", "text"] (spa_read_many [t1] ct) := fun k => oka_read_many (k := k + 4) M XN Z D_read_many D_read_goods (AG k) D_read_tier (AT (k + 2))
  have AA : ∀ k, FnOk P w K mg base (L2N.CX P w) (k + 8) f_read_add fd_read_add ["names", "text"] (spa_read_add [t1] ct) := fun k => oka_read_add M D_read_add D_read_sold (AS k) D_read_number (AN (k + 4))
  have AO : ∀ k, FnOk P w K mg base (L2N.CX P w) (k + 9) f_read_offer fd_read_offer ["names", "text"] (spx_read_offer [t1] ct) := fun k => FnOk.or (FnOk.lift (RO (k + 1))) (oka_read_any M D_read_offer D_read_many (AM (k + 1)) D_read_add (AA k) D_read_sold (AS (k + 1)))
  have AR : FnOk P w K mg base (L2.CX P w) 10 f_read_shop fd_read_shop ["names", "rows"] (spx_read_shop [t1] ct) := oka_read_shop (k := 7) M XN Z xtt D_read_shop D_read_offer (AO 0)
  have AX : FnOk P w K mg base (L2.CX P w) 10 f_read_content fd_read_content ["names", "text"] (spx_content [t1] ct) := FnOk.or (FnOk.lift (RC 6)) (FnOk.weakN (AC 5))
  have G_law_told : FnOkG P w K mg base 11 f_law_told fd_law_told ["_law_names_here", "_law_rows", "_law_whole"] (sp_told [t1]) := ok_told (k := 10) M Z Y O D_law_told D_law_which (ok_which (k := 9) M Y D_law_which) D_read_shop AR D_read_content AX
  -- the law's own readers
  have LN : ∀ k, FnOk P w K mg base CX0 (k + 1) f_law_number_of fd_law_number_of ["_law_text", "_law_most"] sp_number_of := fun k => ok_number_of M D_law_number_of
  have LC : ∀ k, FnOk P w K mg base CX0 (k + 2) f_law_content_of fd_law_content_of ["_law_names_here", "_law_text"] sp_lcontent_of := fun k => ok_lcontent_of M D_law_content_of D_law_number_of (LN k) D_law_cases (ok_cases D_law_cases)
  have LP : ∀ k, FnOk P w K mg base CX0 (k + 2) f_law_priced_of fd_law_priced_of ["_law_text"] sp_priced_of := fun k => ok_priced_of M D_law_priced_of D_law_number_of (LN k)
  have LK : ∀ k, FnOk P w K mg base CX0 (k + 3) f_law_pack_of fd_law_pack_of ["_law_names_here", "_law_text"] sp_pack_of := fun k => ok_pack_of M D_law_pack_of D_law_priced_of (LP k) D_law_content_of (LC k)
  have LM : ∀ k, FnOk P w K mg base CX0 (k + 3) f_law_many_of fd_law_many_of ["_law_names_here", "_law_text"] sp_many_of := fun k => ok_many_of M D_law_many_of D_law_priced_of (LP k) D_law_content_of (LC k) D_law_number_of (LN (k + 1))
  have LO : ∀ k, FnOk P w K mg base CX0 (k + 4) f_law_offer_of fd_law_offer_of ["_law_names_here", "_law_text"] sp_offer_of := fun k => ok_offer_of M D_law_offer_of D_law_many_of (LM k) D_law_pack_of (LK k) D_law_number_of (LN (k + 2))
  have G_law_due : FnOkG P w K mg base 11 f_law_due fd_law_due ["_law_names_here", "_law_rows", "_law_whole"] sp_due := ok_due (k := 10) M D_law_due D_law_content_of (LC 8) D_law_offer_of (LO 6)
  have G_law_pop : ∀ k, FnOk P w K mg base CX0 (k + 1) f_law_pop fd_law_pop ["_law_draws_here"] sp_pop := fun k => ok_pop D_law_pop
  have G_law_text_bent : FnOk P w K mg base CX0 11 f_law_text_bent fd_law_text_bent ["_law_text", "_law_names_here", "_law_draws_here"] sp_text_bent := ok_text_bent (k := 10) M D_law_text_bent D_law_pop (G_law_pop 9) D_law_sign_bent (ok_sign_bent (k := 9) M D_law_sign_bent D_law_pop (G_law_pop 8)) D_law_word_bent (ok_word_bent (k := 9) M D_law_word_bent D_law_pop (G_law_pop 8))
  refine FnOkG.imp (ok_lawB (k := 11) M D D_law_draws (ok_draws M D_law_draws) D_law_pop (G_law_pop 10) D_law_names (ok_law_names (k := 9) M D_law_names D_law_pop) D_law_shop (ok_shop (k := 7) M D_law_shop D_law_content D_law_price D_law_tiers D_law_want D_law_pop D_law_cases) D_law_offer_text (ok_law_offer_text (k := 9) M D_law_offer_text D_law_content_text) D_law_content_text (ok_law_text M D_law_content_text) D_law_want (ok_want M D_law_want D_law_pop D_law_cases) D_law_text_bent G_law_text_bent D_law_told G_law_told D_law_due G_law_due) fun vs H Q E h => ?_
  obtain ⟨a, ns, rfl, hS0, hlen, hT1, q⟩ := h
  exact ⟨a, ns, rfl, hS0, hlen, fun t ht => by rw [List.mem_singleton.mp ht]; exact hT1, q⟩
end
/-! ### the end, with tables of code objects -/
theorem tabIn_of {K : PySem.W.Frag} {x : Str} {f c P : Addr} {oc e : Value} {od dd : Option Addr} {fd : FuncData} {sl sl' : Array (Option Value)} {vs : Array Value} (a : PySem.W.nsIn K mainGlobals x = some (some (.ref f))) (l : K.lookup f = some ⟨oc, od, .func fd, sl⟩) (hc : fd.code = .ref c)
    (lc : K.lookup c = some ⟨e, dd, .fields vs, sl'⟩) (hv : vs[11]? = some (.ref P)) : PySem.W.tabIn K x = some (c, P) := by
  unfold PySem.W.tabIn
  rw [a]
  simp only [l, hc, lc, hv]
theorem walk_ofG {l : PySem.W.OpenLaw} {n k : Nat} {q : Program} {loose : List Str} {XP : (Str → Option Value) → Heap → Prop} {YP : World → Heap → Prop} {d : DefRec} {K : Params → PySem.W.Frag} {CX : World → CXT} {x : Str}
    (hn : l.most = some n) (hn2 : n ≤ sizeLine) (hdf : d.params.defaults = []) (hr : Room k callerA) (hY : ∀ (w : World) (h : Heap), YP w h → (K w.params).In h)
    (F : ∀ (w : World) (mg : Str → Option Value) (fa : Addr) (h : Heap), (K w.params).In h → h.Ns mainGlobals mg → mg d.name = some (.ref fa) →
      (∀ (y : Str) (c P : Addr), ((recsOf q).find? fun e => e.name == y).isSome = true → PySem.W.tabIn (K w.params) y = some (c, P) → PySem.W.CodeHd h c P ∧ h.get? P = some { cls := .none, data := .fields #[] }) → LamX.LawAtS l w (K w.params) (CX w) k n x mg fa h)
    (hCX : ∀ (w : World) (H : Hp) (s : Shared) (e : Value) (s' : Shared), CX w [] H s (fun _ _ _ => False) e s' → False) :
    PySem.W.WalkO q loose XP YP l.row.toRowW d [] (fun f vs => PySem.call f vs) := by
  refine Att.attach_callB hn hdf fun w s₀ s₁ mg mb fa o pm cd doc a vs ns G Y ho hd hcd hmg hobj hints hlen hbits hg => ?_
  have KX := hY w _ Y
  obtain ⟨fd, cs, sp, hT, nT, C, hb, hsp, hF⟩ := F w mg fa _ KX G.T.g hmg fun y c P hy ht => by
    obtain ⟨dd, hdd⟩ := Option.isSome_iff_exists.mp hy
    exact PySem.W.tab_of G.T KX hdd ht
  exact LamX.law_callTs KX G.T.g G.T.b G.T.builtins G.T.nolimit hg hT nT C G.T.bmain hobj hints (Nat.le_trans hlen hn2) hr hF hb (fun H hH hS => hsp H a ns hlen hbits hH hS) fun H e s' => hCX w H s₁ e s'
/-! ### the end, for a law that shows data as texts -/
section
variable {P : Program} {w : World} {K : PySem.W.Frag} {mg mb : Str → Option Value} {k : Nat} {fa a : Addr} {cs : List (Addr × Addr)} {fd : FuncData} {x : Str} {sp : Sp} {s : Shared} {vs : List Value} {ns : List Int}
/-- a code object's table, as the head leaves it -/
abbrev tab0 : Obj := { cls := .none, data := .fields #[] }
/-- what is followed at the law's start: the tables, and the script unless it is written -/
def heap0 (K : PySem.W.Frag) (cs : List (Addr × Addr)) (a : Addr) (vs : List Value) (ns : List Int) : Hp := fun b =>
  if b ∈ cs.map Prod.snd then some (.tbl #[]) else if b = a ∧ K.lookup a = none then some (.frz { cls := .type "list", data := .seq vs.toArray } (.lst (ns.map V.int))) else none
theorem heap0_tab {b : Addr} (h : b ∈ cs.map Prod.snd) : heap0 K cs a vs ns b = some (.tbl #[]) := if_pos h
theorem heap0_scr (n : a ∉ cs.map Prod.snd) (h : K.lookup a = none) : heap0 K cs a vs ns a = some (.frz { cls := .type "list", data := .seq vs.toArray } (.lst (ns.map V.int))) := by
  unfold heap0
  rw [if_neg n, if_pos ⟨rfl, h⟩]
theorem heap0_cases {b : Addr} {u : HO} (h : heap0 K cs a vs ns b = some u) : (b ∈ cs.map Prod.snd ∧ u = .tbl #[]) ∨ (b = a ∧ K.lookup a = none ∧ u = .frz { cls := .type "list", data := .seq vs.toArray } (.lst (ns.map V.int))) := by
  unfold heap0 at h
  split at h
  · exact .inl ⟨by assumption, (Option.some.inj h).symm⟩
  · split at h
    · rename_i z
      exact .inr ⟨z.1, z.2, (Option.some.inj h).symm⟩
    · cases h
theorem lawG_call (kin : K.In s.heap) (glb : s.heap.Ns mainGlobals mg) (blt : s.heap.Ns builtinsNs mb) (std : ∀ x : Str, x ≠ "__name__" → mb x = bootBuiltins x) (nol : s.heap.NoLimit) (gens : s.gens = #[])
    (tabs : ∀ p ∈ cs, s.heap.get? p.2 = some tab0) (offK : ∀ p ∈ cs, K.lookup p.2 = none) (code : ∀ p ∈ cs, PySem.W.CodeHd s.heap p.1 p.2)
    (bmod : ∃ (bm : Addr) (ob : Obj), mg "__builtins__" = some (.ref bm) ∧ bm ≠ builtinsNs ∧ s.heap.get? bm = some ob ∧ ob.cls = .type "module" ∧ ob.dict = some builtinsNs ∧ ob.data = .plain)
    (scr : s.heap.get? a = some { cls := .type "list", data := .seq vs.toArray }) (areI : IntsAre vs ns) (few : ns.length ≤ sizeLine) (room : Room k callerA)
    (F : ∀ base : Heap, K.In base → base.Ns mainGlobals mg → (∀ p ∈ cs, GxR.TabB base mg p.1 p.2) → FnOkG P w K mg base k fa fd [x] sp) (bnd : ∀ (s : Shared) (u : Value), BindsTo s fd ⟨[u], []⟩ [(x, u)])
    (pre : ∀ H : Hp, (∀ p ∈ cs, H p.2 = some (.tbl #[])) → SqL K H a (ns.map V.int) → sp [.ref a] H (fun v _ => v = .bl true) fun _ _ _ => False) :
    codeAny (model P w) callerA (.call (.ref fa) ⟨[.ref a], []⟩) (fun r s' => r = .ok (.ret (.bool true)) ∧ OldK s.heap s'.heap ∧ s'.os = s.os ∧ AllBare s'.gens) s := by
  have tabT : ∀ {b}, b ∈ cs.map Prod.snd → s.heap.get? b = some tab0 := fun {b} hb => by
    obtain ⟨p, hp, rfl⟩ := List.mem_map.mp hb
    exact tabs p hp
  have inT : ∀ {p}, p ∈ cs → p.2 ∈ cs.map Prod.snd := fun {p} hp => List.mem_map.mpr ⟨p, hp, rfl⟩
  have scrT : a ∉ cs.map Prod.snd := fun hb => by
    have z := scr.symm.trans (tabT hb)
    injection Option.some.inj z with z1 _ _ _
    cases z1
  generalize hH : heap0 K cs a vs ns = H
  have onT : ∀ p ∈ cs, H p.2 = some (.tbl #[]) := fun p hp => by rw [← hH]; exact heap0_tab (inT hp)
  -- what else stands in the heap is not followed
  have off : ∀ {b : Addr} {o : Obj}, s.heap.get? b = some o → (∀ q n, o.data ≠ .seq q n) → o.data ≠ .fields #[] → H b = none := fun {b o} hb n1 n2 => by
    cases z : H b with
    | none => rfl
    | some u =>
      rw [← hH] at z
      rcases heap0_cases z with ⟨t, _⟩ | ⟨e, _, _⟩
      · cases (tabT t).symm.trans hb
        exact (n2 rfl).elim
      · rw [e] at hb
        cases scr.symm.trans hb
        exact (n1 _ _ rfl).elim
  have offD : ∀ {b : Addr} {o : Obj} {es : Array DictEntry} {ep : Nat}, s.heap.get? b = some o → o.data = .dict es ep → H b = none := fun {b o es ep} hb hd => off hb (fun q n z => by rw [hd] at z; cases z) (fun z => by rw [hd] at z; cases z)
  have nsB : ∀ {b : Addr} {m : Str → Option Value}, s.heap.Ns b m → (hidT s.heap H).Ns b m := fun {b m} z => by
    obtain ⟨o, es, ep, h1, h2, h3⟩ := z
    exact ⟨o, es, ep, hidT_get h1 (offD h1 h2), h2, h3⟩
  have seq : SqL K H a (ns.map V.int) := by
    have rel := vals_ints areI
    cases z : K.lookup a with
    | none => exact .inl (.inr ⟨_, by rw [← hH]; exact heap0_scr scrT z⟩)
    | some o =>
      cases scr.symm.trans (kin a o z)
      exact .inr ⟨_, vs.toArray, _, z, rfl, rfl, rfl, by rw [List.size_toArray, areI.length]; exact few, by simpa using rel⟩
  have hok : HOk P w H s.heap := fun b u z => by
    rw [← hH] at z
    rcases heap0_cases z with ⟨t, rfl⟩ | ⟨rfl, _, rfl⟩
    · exact tabT t
    · exact ⟨scr, by rw [List.length_map]; exact few, vs, _, vals_ints areI, scr⟩
  have kinB : K.In (hidT s.heap H) := fun b o z => hidT_get (kin b o z) (by
    cases y : H b with
    | none => rfl
    | some u =>
      rw [← hH] at y
      rcases heap0_cases y with ⟨t, _⟩ | ⟨e, n, _⟩
      · obtain ⟨p, hp, rfl⟩ := List.mem_map.mp t
        rw [offK p hp] at z
        cases z
      · rw [e, n] at z
        cases z)
  have tbB : ∀ p ∈ cs, GxR.TabB (hidT s.heap H) mg p.1 p.2 := fun p hp => by
    have tp := tabs p hp
    obtain ⟨og, eg, pg, g1, g2, _⟩ := id glb
    refine ⟨?_, ?_, fun z => ?_⟩
    · obtain ⟨o, q, y1, y2, y3, y4, y5, y6, y7, h1, h2, h3, h4, h5⟩ := code p hp
      refine ⟨o, q, y1, y2, y3, y4, y5, y6, y7, hidT_get h1 (off h1 (fun q n z => by rw [h3] at z; cases z) fun z => ?_), h2, h3, h4, h5⟩
      rw [h3] at z
      cases z
      simp at h4
    · obtain ⟨bm, ob, b1, b2, b3, b4, b5, b6⟩ := bmod
      have d1 : bm ≠ mainGlobals := fun z => by
        rw [z] at b3
        cases g1.symm.trans b3
        rw [g2] at b6
        cases b6
      have d2 : bm ≠ p.2 := fun z => by
        rw [z] at b3
        cases tp.symm.trans b3
        cases b6
      exact ⟨bm, ob, b1, b2, d1, d2, hidT_get b3 (off b3 (fun q n z => by rw [b6] at z; cases z) fun z => by rw [b6] at z; cases z), b4, b5, b6⟩
    · rw [z] at g1
      cases tp.symm.trans g1
      cases g2
  have env : Env0 P w K mg (hidT s.heap H) callerA [] s H := by
    refine ⟨rfl, ⟨kinB, nsB glb, ⟨mb, nsB blt, std⟩, ?_⟩, fun b o z => of_hidT z, Nat.le_of_eq (hidT_size _ _), trivial, fun b hb => absurd (show b ∈ ([] : List Addr) from hb) (List.not_mem_nil), hok, .of_eq gens⟩
    obtain ⟨mc, l1, l2⟩ := nol
    exact ⟨mc, nsB l1, l2⟩
  refine codeAny_mono ((F _ kinB (nsB glb) tbB).go callerA [] s H ⟨[.ref a], []⟩ [.ref a] [.ref a] _ _ rfl room env (bnd s (.ref a)) (.cons rfl .nil) (pre H onT seq)) fun r s' res => ?_
  match r, res with
  | .error e, z => exact z.elim
  | .ok (.ret u), ⟨v, H', os, bare, un, hok', rel, val⟩ =>
    have val' : v = .bl true := val
    subst val'
    obtain rfl : u = Value.bool true := rel
    have stay : ∀ {b : Addr} {o : Obj}, b ∉ cs.map Prod.snd → s.heap.get? b = some o → s'.heap.get? b = some o := fun {b o} nb hb => by
      cases z : H b with
      | none => exact un.keep b o hb z (fun y => absurd (show b ∈ ([] : List Addr) from y) List.not_mem_nil) (by simp)
      | some c =>
        have z0 := z
        rw [← hH] at z0
        rcases heap0_cases z0 with ⟨t, _⟩ | ⟨rfl, _, rfl⟩
        · exact absurd t nb
        · obtain ⟨y, _⟩ := hok' _ _ (un.frzs _ _ _ z)
          cases scr.symm.trans hb
          exact y
    have grow : ∀ {b : Addr}, b ∈ cs.map Prod.snd → isCodeTable s.heap b ∧ ∃ more : Array Value, s'.heap.get? b = some { cls := .none, data := .fields more } := fun {b} hb => by
      obtain ⟨p, hp, rfl⟩ := List.mem_map.mp hb
      obtain ⟨more, z⟩ := un.tbls p.2 #[] (onT p hp)
      exact ⟨((code p hp).tab (tabs p hp)).isCodeTable, _, hok' p.2 _ z⟩
    refine ⟨rfl, ⟨fun b o hb => ?_, fun b o hb => ?_⟩, os, bare⟩
    · by_cases t : b ∈ cs.map Prod.snd
      · obtain ⟨c1, more, c2⟩ := grow t
        cases (tabT t).symm.trans hb
        exact .inr (.inl ⟨c1, rfl, #[], more, rfl, by rw [Array.empty_append]; exact c2⟩)
      · exact .inl (stay t hb)
    · by_cases t : b ∈ cs.map Prod.snd
      · obtain ⟨_, more, c2⟩ := grow t
        exact ⟨_, c2⟩
      · exact ⟨o, stay t hb⟩
end
/-- the law's promise, for a law that shows data -/
def LawAtG (l : PySem.W.OpenLaw) (w : World) (K : PySem.W.Frag) (k n : Nat) (x : Str) (mg : Str → Option Value) (fa : Addr) (h : Heap) : Prop :=
  ∃ (fd : FuncData) (cs : List (Addr × Addr)) (sp : Sp), (∀ p ∈ cs, h.get? p.2 = some tab0) ∧ (∀ p ∈ cs, K.lookup p.2 = none) ∧ (∀ p ∈ cs, PySem.W.CodeHd h p.1 p.2) ∧ (∀ (s : Shared) (u : Value), BindsTo s fd ⟨[u], []⟩ [(x, u)]) ∧
    (∀ (H : Hp) (a : Addr) (ns : List Int), ns.length ≤ n → (∀ p ∈ cs, H p.2 = some (.tbl #[])) → SqL K H a (ns.map V.int) → sp [.ref a] H (fun v _ => v = .bl true) fun _ _ _ => False) ∧
    ∀ base : Heap, K.In base → base.Ns mainGlobals mg → (∀ p ∈ cs, GxR.TabB base mg p.1 p.2) → FnOkG l.prog w K mg base k fa fd [x] sp
theorem walk_ofH {l : PySem.W.OpenLaw} {n k : Nat} {q : Program} {loose : List Str} {XP : (Str → Option Value) → Heap → Prop} {YP : World → Heap → Prop} {d : DefRec} {K : Params → PySem.W.Frag} {x : Str}
    (most : l.most = some n) (few : n ≤ sizeLine) (nodef : d.params.defaults = []) (room : Room k callerA) (hK : ∀ (w : World) (h : Heap), YP w h → (K w.params).In h)
    (F : ∀ (w : World) (mg : Str → Option Value) (fa : Addr) (h : Heap), (K w.params).In h → h.Ns mainGlobals mg → mg d.name = some (.ref fa) →
      (∀ (y : Str) (c P : Addr), ((recsOf q).find? fun e => e.name == y).isSome = true → PySem.W.tabIn (K w.params) y = some (c, P) → PySem.W.CodeHd h c P ∧ h.get? P = some tab0) → LawAtG l w (K w.params) k n x mg fa h) :
    PySem.W.WalkO q loose XP YP l.row.toRowW d [] (fun f vs => PySem.call f vs) := by
  refine Att.attach_callB most nodef fun w s₀ s₁ mg mb fa o pm cd doc a vs ns gr Y _ _ _ named scr areI len _ gens => ?_
  have kin := hK w _ Y
  obtain ⟨fd, cs, sp, h1, h2, h3, h4, h5, h6⟩ := F w mg fa _ kin gr.T.g named fun y c P isR tb => by
    obtain ⟨rec, e⟩ := Option.isSome_iff_exists.mp isR
    exact PySem.W.tab_of gr.T kin e tb
  exact lawG_call kin gr.T.g gr.T.b gr.T.builtins gr.T.nolimit gens h1 h2 h3 gr.T.bmain scr areI (Nat.le_trans len few) room h6 h4 fun H t z => h5 H a ns len t z
/-! ### what the top has written -/
theorem all_mk {l : PySem.W.OpenLaw} {w : World} {q : Program} {K : PySem.W.Frag} {h : Heap} {mg : Str → Option Value} {fa f1 f2 f3 f4 f5 f6 f7 f8 f9 f10 f11 f12 f13 f14 f15 f16 f17 f18 f19 f20 f21 f22 f23 f24 f25 f26 f27 f28 f29 f30 f31 f32 f33 f34 f35 f36 f37 : Addr} (X : K.In h) (G : h.Ns mainGlobals mg) (hfa : mg "law" = some (.ref fa))
    (tabs : ∀ (y : Str) (c P : Addr), ((recsOf q).find? fun e => e.name == y).isSome = true → PySem.W.tabIn K y = some (c, P) → PySem.W.CodeHd h c P ∧ h.get? P = some { cls := .none, data := .fields #[] })
    {od1 an1 od2 an2 od3 an3 od4 an4 od5 an5 od6 an6 od7 an7 od8 an8 od9 an9 od10 an10 od11 an11 od12 an12 od13 an13 od14 an14 od15 an15 od16 an16 od17 an17 od18 an18 od19 an19 od20 an20 od21 an21 od22 an22 od23 an23 od24 an24 od25 an25 od26 an26 od27 an27 od28 an28 od29 an29 od30 an30 od31 an31 od32 an32 od33 an33 od34 an34 od35 an35 od36 an36 od37 an37 : Option Addr} {sl1 sl2 sl3 sl4 sl5 sl6 sl7 sl8 sl9 sl10 sl11 sl12 sl13 sl14 sl15 sl16 sl17 sl18 sl19 sl20 sl21 sl22 sl23 sl24 sl25 sl26 sl27 sl28 sl29 sl30 sl31 sl32 sl33 sl34 sl35 sl36 sl37 : Array (Option Value)} {oc1 kV1 dc1 pm1 ct1 cd1 oc2 kV2 dc2 pm2 ct2 cd2 oc3 kV3 dc3 pm3 ct3 oc4 kV4 dc4 pm4 ct4 cd4 oc5 kV5 dc5 pm5 ct5 cd5 oc6 kV6 dc6 pm6 ct6 cd6 oc7 kV7 dc7 pm7 ct7 cd7 oc8 kV8 dc8 pm8 ct8 cd8 oc9 kV9 dc9 pm9 ct9 cd9 oc10 kV10 dc10 pm10 ct10 cd10 oc11 kV11 dc11 pm11 ct11 cd11 oc12 kV12 dc12 pm12 ct12 cd12 oc13 kV13 dc13 pm13 ct13 cd13 oc14 kV14 dc14 pm14 ct14 cd14 oc15 kV15 dc15 pm15 ct15 cd15 oc16 kV16 dc16 pm16 ct16 cd16 oc17 kV17 dc17 pm17 ct17 cd17 oc18 kV18 dc18 pm18 ct18 cd18 oc19 kV19 dc19 pm19 ct19 cd19 oc20 kV20 dc20 pm20 ct20 cd20 oc21 kV21 dc21 pm21 ct21 cd21 oc22 kV22 dc22 pm22 ct22 cd22 oc23 kV23 dc23 pm23 ct23 cd23 oc24 kV24 dc24 pm24 ct24 cd24 oc25 kV25 dc25 pm25 ct25 cd25 oc26 kV26 dc26 pm26 ct26 cd26 oc27 kV27 dc27 pm27 ct27 cd27 oc28 kV28 dc28 pm28 ct28 cd28 oc29 kV29 dc29 pm29 ct29 cd29 oc30 kV30 dc30 pm30 ct30 cd30 oc31 kV31 dc31 pm31 ct31 cd31 oc32 kV32 dc32 pm32 ct32 cd32 oc33 kV33 dc33 pm33 ct33 cd33 oc34 kV34 dc34 pm34 ct34 cd34 oc35 kV35 dc35 pm35 ct35 cd35 oc36 kV36 dc36 pm36 ct36 cd36 oc37 kV37 dc37 pm37 ct37 cd37 : Value}
    {cT3 PT3 : Addr} {eT3 : Value} {dT3 : Option Addr} {vT3 : Array Value} {sT3 : Array (Option Value)}
    {C CP fI cNoLine cNoPlace cNoText cNoThings : Addr} {nmC qC : Str} {NC : Addr} {bsC : List Value} {snC : List Str} {subC : List Value} {abC : Bool} {colC : Option Bool} {ddC : Option Addr} {mC0 mC1 mC2 mC3 mC5 : Option Value} {odI anI : Option Addr} {slI : Array (Option Value)} {ocI kVI dcI pmI cdI ctI : Value} {fT : Addr} {nmT qT : Str} {NT : Addr} {bsT : List Value} {snT : List Str} {subT : List Value} {abT : Bool} {colT : Option Bool} {ddT : Option Addr} {mT0 mT1 mT2 mT3 mT5 : Option Value} {odT anT : Option Addr} {slT : Array (Option Value)} {ocT kVT dcT pmT cdT ctT : Value}
    (xaC : PySem.W.nsIn K mainGlobals "NoOffer" = some (some (.ref C)))
    (xaP : PySem.W.nsIn K mainGlobals "PackError" = some (some (.ref CP)))
    (xL : K.lookup C = some (excClassObj nmC qC C NC bsC [.ref CP, .type "ValueError", .type "Exception", .type "BaseException", .type "object"] true snC subC abC colC ddC mC0 mC1 mC2 mC3 mC5 "ValueError.__new__"))
    (xsa : PySem.W.findIn K (.ref C) "__setattr__" = some (some (.builtin "object.__setattr__")))
    (xex : PySem.W.subIn K (.ref C) (.type "BaseException") = some true)
    (xty : PySem.W.typeIn K (.ref C) = some (.type "type"))
    (xkC : PySem.W.keepIn K (.ref C) = true)
    (xrP : PySem.W.readsIn K CP (.type "type") = true)
    (xgP : PySem.W.specialIn K (.ref CP) "__getattribute__" = some (some (.builtin "type.__getattribute__")))
    (xvP : PySem.W.findCls K (.ref CP) (.type "type") "__init__" = some (.val (.builtin "ValueError.__init__")))
    (xnp : PySem.W.findIn K (.ref C) "place" = some none)
    (xiC : PySem.W.findIn K (.ref C) "__init__" = some (some (.ref fI)))
    (xtI : PySem.W.typeIn K (.ref fI) = some (.type "function"))
    (xlI : K.lookup fI = some ⟨ocI, odI, .func (PySem.W.fnOf "__init__" "NoOffer.__init__" (defArgs s_ninit) (defBody s_ninit) (defScope s_ninit) .none kVI dcI pmI anI cdI ctI), slI⟩)
    (xcI : PySem.W.codeIn K cdI "NoOffer.__init__" = true)
    (xkI : PySem.W.keepIn K (.ref fI) = true)
    (xhg : PySem.W.findIn K (.ref C) "__getattribute__" = some (some (.builtin "BaseException.__getattribute__")))
    (xhk : PySem.W.findIn K (.ref C) "__getattr__" = some none)
    (xhd : PySem.W.hasDictIn K C = true)
    (xha : PySem.W.findIn K (.ref C) "__class__" = some (some (.builtin "object.__class__")))
    (xhn : PySem.W.specialIn K (.builtin "object.__class__") "__get__" = some (some (.builtin "getset_descriptor.__get__")))
    (xht : PySem.W.takesIn K (.builtin "object.__class__") = some true)
    (xhm : PySem.W.mroIn K C (.type "object") = some true)
    (xv : PySem.W.nsIn K mainGlobals "ValueError" = some none)
    (xaNoLine : PySem.W.nsIn K mainGlobals "NoLine" = some (some (.ref cNoLine)))
    (xaNoPlace : PySem.W.nsIn K mainGlobals "NoPlace" = some (some (.ref cNoPlace)))
    (xaNoText : PySem.W.nsIn K mainGlobals "NoText" = some (some (.ref cNoText)))
    (xaNoThings : PySem.W.nsIn K mainGlobals "NoThings" = some (some (.ref cNoThings)))
    (xtt : PySem.W.exmOne K (.ref cNoText) (.ref cNoText) = some true)
    (qem : PySem.W.exmOne K (.ref cNoText) (.ref CP) = some true)
    (qkp : PySem.W.kitOne K (.ref cNoText) (.ref CP) = some true)
    (qkv : PySem.W.kitOne K (.ref cNoText) (.type "ValueError") = some true)
    (qca : PySem.W.findIn K (.ref cNoText) "__class__" = some (some (.builtin "object.__class__")))
    (qcm : PySem.W.mroIn K cNoText (.type "object") = some true)
    (qf_NoLine : PySem.W.kitOne K (.ref cNoText) (.ref cNoLine) = some false)
    (qf_C : PySem.W.kitOne K (.ref cNoText) (.ref C) = some false)
    (qf_NoPlace : PySem.W.kitOne K (.ref cNoText) (.ref cNoPlace) = some false)
    (qf_NoText : PySem.W.kitOne K (.ref cNoText) (.ref cNoText) = some true)
    (qf_NoThings : PySem.W.kitOne K (.ref cNoText) (.ref cNoThings) = some false)
    (yL : K.lookup cNoText = some (excClassObj nmT qT cNoText NT bsT [.ref CP, .type "ValueError", .type "Exception", .type "BaseException", .type "object"] true snT subT abT colT ddT mT0 mT1 mT2 mT3 mT5 "ValueError.__new__"))
    (ysa : PySem.W.findIn K (.ref cNoText) "__setattr__" = some (some (.builtin "object.__setattr__")))
    (yex : PySem.W.subIn K (.ref cNoText) (.type "BaseException") = some true)
    (yty : PySem.W.typeIn K (.ref cNoText) = some (.type "type"))
    (ykC : PySem.W.keepIn K (.ref cNoText) = true)
    (ynr : PySem.W.findIn K (.ref cNoText) "row" = some none)
    (yiC : PySem.W.findIn K (.ref cNoText) "__init__" = some (some (.ref fT)))
    (ytI : PySem.W.typeIn K (.ref fT) = some (.type "function"))
    (ylI : K.lookup fT = some ⟨ocT, odT, .func (PySem.W.fnOf "__init__" "NoText.__init__" (defArgs s_xinit) (defBody s_xinit) (defScope s_xinit) .none kVT dcT pmT anT cdT ctT), slT⟩)
    (ycI : PySem.W.codeIn K cdT "NoText.__init__" = true)
    (ykI : PySem.W.keepIn K (.ref fT) = true)
    (yhg : PySem.W.findIn K (.ref cNoText) "__getattribute__" = some (some (.builtin "BaseException.__getattribute__")))
    (yhk : PySem.W.findIn K (.ref cNoText) "__getattr__" = some none)
    (yhd : PySem.W.hasDictIn K cNoText = true)
    (a1 : PySem.W.nsIn K mainGlobals "law" = some (some (.ref f1))) (l1 : K.lookup f1 = some ⟨oc1, od1, .func (PySem.W.fnOf "law" "law" (defArgs s_law) (defBody s_law) (defScope s_law) .none kV1 dc1 pm1 an1 cd1 ct1), sl1⟩) (c1 : PySem.W.codeIn K cd1 "law" = true) (k1 : PySem.W.keepIn K (.ref f1) = true)
    (a2 : PySem.W.nsIn K mainGlobals "show_content" = some (some (.ref f2))) (l2 : K.lookup f2 = some ⟨oc2, od2, .func (PySem.W.fnOf "show_content" "show_content" (defArgs s_show_content) (defBody s_show_content) (defScope s_show_content) .none kV2 dc2 pm2 an2 cd2 ct2), sl2⟩) (c2 : PySem.W.codeIn K cd2 "show_content" = true) (k2 : PySem.W.keepIn K (.ref f2) = true)
    (a3 : PySem.W.nsIn K mainGlobals "made_of" = some (some (.ref f3))) (l3 : K.lookup f3 = some ⟨oc3, od3, .func (PySem.W.fnOf "made_of" "made_of" (defArgs s_made_of) (defBody s_made_of) (defScope s_made_of) .none kV3 dc3 pm3 an3 (.ref cT3) ct3), sl3⟩) (c3 : PySem.W.codeIn K (.ref cT3) "made_of" = true) (k3 : PySem.W.keepIn K (.ref f3) = true)
    (a4 : PySem.W.nsIn K mainGlobals "read_number" = some (some (.ref f4))) (l4 : K.lookup f4 = some ⟨oc4, od4, .func (PySem.W.fnOf "read_number" "read_number" (defArgs s_read_number) (defBody s_read_number) (defScope s_read_number) .none kV4 dc4 pm4 an4 cd4 ct4), sl4⟩) (c4 : PySem.W.codeIn K cd4 "read_number" = true) (k4 : PySem.W.keepIn K (.ref f4) = true)
    (a5 : PySem.W.nsIn K mainGlobals "within_bounds" = some (some (.ref f5))) (l5 : K.lookup f5 = some ⟨oc5, od5, .func (PySem.W.fnOf "within_bounds" "within_bounds" (defArgs s_within_bounds) (defBody s_within_bounds) (defScope s_within_bounds) .none kV5 dc5 pm5 an5 cd5 ct5), sl5⟩) (c5 : PySem.W.codeIn K cd5 "within_bounds" = true) (k5 : PySem.W.keepIn K (.ref f5) = true)
    (a6 : PySem.W.nsIn K mainGlobals "read_thing" = some (some (.ref f6))) (l6 : K.lookup f6 = some ⟨oc6, od6, .func (PySem.W.fnOf "read_thing" "read_thing" (defArgs s_read_thing) (defBody s_read_thing) (defScope s_read_thing) .none kV6 dc6 pm6 an6 cd6 ct6), sl6⟩) (c6 : PySem.W.codeIn K cd6 "read_thing" = true) (k6 : PySem.W.keepIn K (.ref f6) = true)
    (a7 : PySem.W.nsIn K mainGlobals "read_content" = some (some (.ref f7))) (l7 : K.lookup f7 = some ⟨oc7, od7, .func (PySem.W.fnOf "read_content" "read_content" (defArgs s_read_content) (defBody s_read_content) (defScope s_read_content) .none kV7 dc7 pm7 an7 cd7 ct7), sl7⟩) (c7 : PySem.W.codeIn K cd7 "read_content" = true) (k7 : PySem.W.keepIn K (.ref f7) = true)
    (a8 : PySem.W.nsIn K mainGlobals "read_goods" = some (some (.ref f8))) (l8 : K.lookup f8 = some ⟨oc8, od8, .func (PySem.W.fnOf "read_goods" "read_goods" (defArgs s_read_goods) (defBody s_read_goods) (defScope s_read_goods) .none kV8 dc8 pm8 an8 cd8 ct8), sl8⟩) (c8 : PySem.W.codeIn K cd8 "read_goods" = true) (k8 : PySem.W.keepIn K (.ref f8) = true)
    (a9 : PySem.W.nsIn K mainGlobals "read_sold" = some (some (.ref f9))) (l9 : K.lookup f9 = some ⟨oc9, od9, .func (PySem.W.fnOf "read_sold" "read_sold" (defArgs s_read_sold) (defBody s_read_sold) (defScope s_read_sold) .none kV9 dc9 pm9 an9 cd9 ct9), sl9⟩) (c9 : PySem.W.codeIn K cd9 "read_sold" = true) (k9 : PySem.W.keepIn K (.ref f9) = true)
    (a10 : PySem.W.nsIn K mainGlobals "read_tier" = some (some (.ref f10))) (l10 : K.lookup f10 = some ⟨oc10, od10, .func (PySem.W.fnOf "read_tier" "read_tier" (defArgs s_read_tier) (defBody s_read_tier) (defScope s_read_tier) .none kV10 dc10 pm10 an10 cd10 ct10), sl10⟩) (c10 : PySem.W.codeIn K cd10 "read_tier" = true) (k10 : PySem.W.keepIn K (.ref f10) = true)
    (a11 : PySem.W.nsIn K mainGlobals "read_many" = some (some (.ref f11))) (l11 : K.lookup f11 = some ⟨oc11, od11, .func (PySem.W.fnOf "read_many" "read_many" (defArgs s_read_many) (defBody s_read_many) (defScope s_read_many) .none kV11 dc11 pm11 an11 cd11 ct11), sl11⟩) (c11 : PySem.W.codeIn K cd11 "read_many" = true) (k11 : PySem.W.keepIn K (.ref f11) = true)
    (a12 : PySem.W.nsIn K mainGlobals "read_add" = some (some (.ref f12))) (l12 : K.lookup f12 = some ⟨oc12, od12, .func (PySem.W.fnOf "read_add" "read_add" (defArgs s_read_add) (defBody s_read_add) (defScope s_read_add) .none kV12 dc12 pm12 an12 cd12 ct12), sl12⟩) (c12 : PySem.W.codeIn K cd12 "read_add" = true) (k12 : PySem.W.keepIn K (.ref f12) = true)
    (a13 : PySem.W.nsIn K mainGlobals "read_offer" = some (some (.ref f13))) (l13 : K.lookup f13 = some ⟨oc13, od13, .func (PySem.W.fnOf "read_offer" "read_offer" (defArgs s_read_offer) (defBody s_read_offer) (defScope s_read_offer) .none kV13 dc13 pm13 an13 cd13 ct13), sl13⟩) (c13 : PySem.W.codeIn K cd13 "read_offer" = true) (k13 : PySem.W.keepIn K (.ref f13) = true)
    (a14 : PySem.W.nsIn K mainGlobals "read_shop" = some (some (.ref f14))) (l14 : K.lookup f14 = some ⟨oc14, od14, .func (PySem.W.fnOf "read_shop" "read_shop" (defArgs s_read_shop) (defBody s_read_shop) (defScope s_read_shop) .none kV14 dc14 pm14 an14 cd14 ct14), sl14⟩) (c14 : PySem.W.codeIn K cd14 "read_shop" = true) (k14 : PySem.W.keepIn K (.ref f14) = true)
    (a15 : PySem.W.nsIn K mainGlobals "_law_draws" = some (some (.ref f15))) (l15 : K.lookup f15 = some ⟨oc15, od15, .func (PySem.W.fnOf "_law_draws" "_law_draws" (defArgs s_law_draws) (defBody s_law_draws) (defScope s_law_draws) .none kV15 dc15 pm15 an15 cd15 ct15), sl15⟩) (c15 : PySem.W.codeIn K cd15 "_law_draws" = true) (k15 : PySem.W.keepIn K (.ref f15) = true)
    (a16 : PySem.W.nsIn K mainGlobals "_law_pop" = some (some (.ref f16))) (l16 : K.lookup f16 = some ⟨oc16, od16, .func (PySem.W.fnOf "_law_pop" "_law_pop" (defArgs s_law_pop) (defBody s_law_pop) (defScope s_law_pop) .none kV16 dc16 pm16 an16 cd16 ct16), sl16⟩) (c16 : PySem.W.codeIn K cd16 "_law_pop" = true) (k16 : PySem.W.keepIn K (.ref f16) = true)
    (a17 : PySem.W.nsIn K mainGlobals "_law_want" = some (some (.ref f17))) (l17 : K.lookup f17 = some ⟨oc17, od17, .func (PySem.W.fnOf "_law_want" "_law_want" (defArgs s_law_want) (defBody s_law_want) (defScope s_law_want) .none kV17 dc17 pm17 an17 cd17 ct17), sl17⟩) (c17 : PySem.W.codeIn K cd17 "_law_want" = true) (k17 : PySem.W.keepIn K (.ref f17) = true)
    (a18 : PySem.W.nsIn K mainGlobals "_law_cases" = some (some (.ref f18))) (l18 : K.lookup f18 = some ⟨oc18, od18, .func (PySem.W.fnOf "_law_cases" "_law_cases" (defArgs s_law_cases) (defBody s_law_cases) (defScope s_law_cases) .none kV18 dc18 pm18 an18 cd18 ct18), sl18⟩) (c18 : PySem.W.codeIn K cd18 "_law_cases" = true) (k18 : PySem.W.keepIn K (.ref f18) = true)
    (a19 : PySem.W.nsIn K mainGlobals "_law_content" = some (some (.ref f19))) (l19 : K.lookup f19 = some ⟨oc19, od19, .func (PySem.W.fnOf "_law_content" "_law_content" (defArgs s_law_content) (defBody s_law_content) (defScope s_law_content) .none kV19 dc19 pm19 an19 cd19 ct19), sl19⟩) (c19 : PySem.W.codeIn K cd19 "_law_content" = true) (k19 : PySem.W.keepIn K (.ref f19) = true)
    (a20 : PySem.W.nsIn K mainGlobals "_law_price" = some (some (.ref f20))) (l20 : K.lookup f20 = some ⟨oc20, od20, .func (PySem.W.fnOf "_law_price" "_law_price" (defArgs s_law_price) (defBody s_law_price) (defScope s_law_price) .none kV20 dc20 pm20 an20 cd20 ct20), sl20⟩) (c20 : PySem.W.codeIn K cd20 "_law_price" = true) (k20 : PySem.W.keepIn K (.ref f20) = true)
    (a21 : PySem.W.nsIn K mainGlobals "_law_tiers" = some (some (.ref f21))) (l21 : K.lookup f21 = some ⟨oc21, od21, .func (PySem.W.fnOf "_law_tiers" "_law_tiers" (defArgs s_law_tiers) (defBody s_law_tiers) (defScope s_law_tiers) .none kV21 dc21 pm21 an21 cd21 ct21), sl21⟩) (c21 : PySem.W.codeIn K cd21 "_law_tiers" = true) (k21 : PySem.W.keepIn K (.ref f21) = true)
    (a22 : PySem.W.nsIn K mainGlobals "_law_shop" = some (some (.ref f22))) (l22 : K.lookup f22 = some ⟨oc22, od22, .func (PySem.W.fnOf "_law_shop" "_law_shop" (defArgs s_law_shop) (defBody s_law_shop) (defScope s_law_shop) .none kV22 dc22 pm22 an22 cd22 ct22), sl22⟩) (c22 : PySem.W.codeIn K cd22 "_law_shop" = true) (k22 : PySem.W.keepIn K (.ref f22) = true)
    (a23 : PySem.W.nsIn K mainGlobals "_law_names" = some (some (.ref f23))) (l23 : K.lookup f23 = some ⟨oc23, od23, .func (PySem.W.fnOf "_law_names" "_law_names" (defArgs s_law_names) (defBody s_law_names) (defScope s_law_names) .none kV23 dc23 pm23 an23 cd23 ct23), sl23⟩) (c23 : PySem.W.codeIn K cd23 "_law_names" = true) (k23 : PySem.W.keepIn K (.ref f23) = true)
    (a24 : PySem.W.nsIn K mainGlobals "_law_content_text" = some (some (.ref f24))) (l24 : K.lookup f24 = some ⟨oc24, od24, .func (PySem.W.fnOf "_law_content_text" "_law_content_text" (defArgs s_law_content_text) (defBody s_law_content_text) (defScope s_law_content_text) .none kV24 dc24 pm24 an24 cd24 ct24), sl24⟩) (c24 : PySem.W.codeIn K cd24 "_law_content_text" = true) (k24 : PySem.W.keepIn K (.ref f24) = true)
    (a25 : PySem.W.nsIn K mainGlobals "_law_offer_text" = some (some (.ref f25))) (l25 : K.lookup f25 = some ⟨oc25, od25, .func (PySem.W.fnOf "_law_offer_text" "_law_offer_text" (defArgs s_law_offer_text) (defBody s_law_offer_text) (defScope s_law_offer_text) .none kV25 dc25 pm25 an25 cd25 ct25), sl25⟩) (c25 : PySem.W.codeIn K cd25 "_law_offer_text" = true) (k25 : PySem.W.keepIn K (.ref f25) = true)
    (a26 : PySem.W.nsIn K mainGlobals "_law_number_of" = some (some (.ref f26))) (l26 : K.lookup f26 = some ⟨oc26, od26, .func (PySem.W.fnOf "_law_number_of" "_law_number_of" (defArgs s_law_number_of) (defBody s_law_number_of) (defScope s_law_number_of) .none kV26 dc26 pm26 an26 cd26 ct26), sl26⟩) (c26 : PySem.W.codeIn K cd26 "_law_number_of" = true) (k26 : PySem.W.keepIn K (.ref f26) = true)
    (a27 : PySem.W.nsIn K mainGlobals "_law_content_of" = some (some (.ref f27))) (l27 : K.lookup f27 = some ⟨oc27, od27, .func (PySem.W.fnOf "_law_content_of" "_law_content_of" (defArgs s_law_content_of) (defBody s_law_content_of) (defScope s_law_content_of) .none kV27 dc27 pm27 an27 cd27 ct27), sl27⟩) (c27 : PySem.W.codeIn K cd27 "_law_content_of" = true) (k27 : PySem.W.keepIn K (.ref f27) = true)
    (a28 : PySem.W.nsIn K mainGlobals "_law_priced_of" = some (some (.ref f28))) (l28 : K.lookup f28 = some ⟨oc28, od28, .func (PySem.W.fnOf "_law_priced_of" "_law_priced_of" (defArgs s_law_priced_of) (defBody s_law_priced_of) (defScope s_law_priced_of) .none kV28 dc28 pm28 an28 cd28 ct28), sl28⟩) (c28 : PySem.W.codeIn K cd28 "_law_priced_of" = true) (k28 : PySem.W.keepIn K (.ref f28) = true)
    (a29 : PySem.W.nsIn K mainGlobals "_law_pack_of" = some (some (.ref f29))) (l29 : K.lookup f29 = some ⟨oc29, od29, .func (PySem.W.fnOf "_law_pack_of" "_law_pack_of" (defArgs s_law_pack_of) (defBody s_law_pack_of) (defScope s_law_pack_of) .none kV29 dc29 pm29 an29 cd29 ct29), sl29⟩) (c29 : PySem.W.codeIn K cd29 "_law_pack_of" = true) (k29 : PySem.W.keepIn K (.ref f29) = true)
    (a30 : PySem.W.nsIn K mainGlobals "_law_many_of" = some (some (.ref f30))) (l30 : K.lookup f30 = some ⟨oc30, od30, .func (PySem.W.fnOf "_law_many_of" "_law_many_of" (defArgs s_law_many_of) (defBody s_law_many_of) (defScope s_law_many_of) .none kV30 dc30 pm30 an30 cd30 ct30), sl30⟩) (c30 : PySem.W.codeIn K cd30 "_law_many_of" = true) (k30 : PySem.W.keepIn K (.ref f30) = true)
    (a31 : PySem.W.nsIn K mainGlobals "_law_offer_of" = some (some (.ref f31))) (l31 : K.lookup f31 = some ⟨oc31, od31, .func (PySem.W.fnOf "_law_offer_of" "_law_offer_of" (defArgs s_law_offer_of) (defBody s_law_offer_of) (defScope s_law_offer_of) .none kV31 dc31 pm31 an31 cd31 ct31), sl31⟩) (c31 : PySem.W.codeIn K cd31 "_law_offer_of" = true) (k31 : PySem.W.keepIn K (.ref f31) = true)
    (a32 : PySem.W.nsIn K mainGlobals "_law_sign_bent" = some (some (.ref f32))) (l32 : K.lookup f32 = some ⟨oc32, od32, .func (PySem.W.fnOf "_law_sign_bent" "_law_sign_bent" (defArgs s_law_sign_bent) (defBody s_law_sign_bent) (defScope s_law_sign_bent) .none kV32 dc32 pm32 an32 cd32 ct32), sl32⟩) (c32 : PySem.W.codeIn K cd32 "_law_sign_bent" = true) (k32 : PySem.W.keepIn K (.ref f32) = true)
    (a33 : PySem.W.nsIn K mainGlobals "_law_word_bent" = some (some (.ref f33))) (l33 : K.lookup f33 = some ⟨oc33, od33, .func (PySem.W.fnOf "_law_word_bent" "_law_word_bent" (defArgs s_law_word_bent) (defBody s_law_word_bent) (defScope s_law_word_bent) .none kV33 dc33 pm33 an33 cd33 ct33), sl33⟩) (c33 : PySem.W.codeIn K cd33 "_law_word_bent" = true) (k33 : PySem.W.keepIn K (.ref f33) = true)
    (a34 : PySem.W.nsIn K mainGlobals "_law_text_bent" = some (some (.ref f34))) (l34 : K.lookup f34 = some ⟨oc34, od34, .func (PySem.W.fnOf "_law_text_bent" "_law_text_bent" (defArgs s_law_text_bent) (defBody s_law_text_bent) (defScope s_law_text_bent) .none kV34 dc34 pm34 an34 cd34 ct34), sl34⟩) (c34 : PySem.W.codeIn K cd34 "_law_text_bent" = true) (k34 : PySem.W.keepIn K (.ref f34) = true)
    (a35 : PySem.W.nsIn K mainGlobals "_law_which" = some (some (.ref f35))) (l35 : K.lookup f35 = some ⟨oc35, od35, .func (PySem.W.fnOf "_law_which" "_law_which" (defArgs s_law_which) (defBody s_law_which) (defScope s_law_which) .none kV35 dc35 pm35 an35 cd35 ct35), sl35⟩) (c35 : PySem.W.codeIn K cd35 "_law_which" = true) (k35 : PySem.W.keepIn K (.ref f35) = true)
    (a36 : PySem.W.nsIn K mainGlobals "_law_told" = some (some (.ref f36))) (l36 : K.lookup f36 = some ⟨oc36, od36, .func (PySem.W.fnOf "_law_told" "_law_told" (defArgs s_law_told) (defBody s_law_told) (defScope s_law_told) .none kV36 dc36 pm36 an36 cd36 ct36), sl36⟩) (c36 : PySem.W.codeIn K cd36 "_law_told" = true) (k36 : PySem.W.keepIn K (.ref f36) = true)
    (a37 : PySem.W.nsIn K mainGlobals "_law_due" = some (some (.ref f37))) (l37 : K.lookup f37 = some ⟨oc37, od37, .func (PySem.W.fnOf "_law_due" "_law_due" (defArgs s_law_due) (defBody s_law_due) (defScope s_law_due) .none kV37 dc37 pm37 an37 cd37 ct37), sl37⟩) (c37 : PySem.W.codeIn K cd37 "_law_due" = true) (k37 : PySem.W.keepIn K (.ref f37) = true)
    (lc3 : K.lookup cT3 = some ⟨eT3, dT3, .fields vT3, sT3⟩) (hv3 : vT3[11]? = some (.ref PT3)) (nt3 : (K.lookup PT3).isNone = true) (rc3 : ((recsOf q).find? fun e => e.name == ("made_of" : Str)).isSome = true)
    (z1 : PySem.W.nsIn K mainGlobals "len" = some none)
    (z2 : PySem.W.nsIn K mainGlobals "range" = some none)
    (z3 : PySem.W.nsIn K mainGlobals "max" = some none)
    (z4 : PySem.W.nsIn K mainGlobals "list" = some none)
    (z5 : PySem.W.nsIn K mainGlobals "isinstance" = some none)
    (z6 : PySem.W.nsIn K mainGlobals "int" = some none)
    (z7 : PySem.W.nsIn K mainGlobals "bool" = some none)
    (z8 : PySem.W.nsIn K mainGlobals "enumerate" = some none)
    (z9 : PySem.W.nsIn K mainGlobals "all" = some none)
    (z10 : PySem.W.nsIn K mainGlobals "zip" = some none)
    (z11 : PySem.W.nsIn K mainGlobals "reversed" = some none)
    (z12 : PySem.W.nsIn K mainGlobals "sum" = some none)
    (z13 : PySem.W.nsIn K mainGlobals "sorted" = some none)
    (z14 : PySem.W.nsIn K mainGlobals "tuple" = some none)
    (z15 : PySem.W.nsIn K mainGlobals "any" = some none)
    (z16 : PySem.W.nsIn K mainGlobals "min" = some none)
    (z17 : PySem.W.nsIn K mainGlobals "str" = some none)
    (z18 : PySem.W.nsIn K mainGlobals "abs" = some none)
    (z19 : PySem.W.nsIn K mainGlobals "set" = some none)
    {tk1 : Tok} (q1 : PySem.W.nsIn K mainGlobals "MOST_TIERS" = some (some (.int 4 tk1)))
    {tk2 : Tok} (q2 : PySem.W.nsIn K mainGlobals "FIGURES" = some (some (.str "0123456789" tk2)))
    {tk3 : Tok} (q3 : PySem.W.nsIn K mainGlobals "MOST_LESSER" = some (some (.int 400 tk3)))
    {tk4 : Tok} (q4 : PySem.W.nsIn K mainGlobals "THING_FIGURES" = some (some (.int 1 tk4)))
    {tk5 : Tok} (q5 : PySem.W.nsIn K mainGlobals "PLACE_FIGURES" = some (some (.int 2 tk5)))
    {tk6 : Tok} (q6 : PySem.W.nsIn K mainGlobals "PRICE_FIGURES" = some (some (.int 12 tk6)))
    : LawAtG l w K 12 63 "_law_script" mg fa h := by
  have e := hfa.symm.trans (PySem.W.mg_of X G a1)
  cases e
  have F1 := fun_mk (st := s_law) l1 c1 k1
  have b1 := F1.binds (ps := ["_law_script"]) fun _ _ _ _ _ _ us hl => match us, hl with | [_], _ => rfl
  have F2 := fun_mk (st := s_show_content) l2 c2 k2
  have b2 := F2.binds (ps := ["names", "content"]) fun _ _ _ _ _ _ us hl => match us, hl with | [_, _], _ => rfl
  have F3 := fun_mk (st := s_made_of) l3 c3 k3
  have b3 := F3.binds (ps := ["signs", "text", "most"]) fun _ _ _ _ _ _ us hl => match us, hl with | [_, _, _], _ => rfl
  have F4 := fun_mk (st := s_read_number) l4 c4 k4
  have b4 := F4.binds (ps := ["text", "figures"]) fun _ _ _ _ _ _ us hl => match us, hl with | [_, _], _ => rfl
  have F5 := fun_mk (st := s_within_bounds) l5 c5 k5
  have b5 := F5.binds (ps := ["content"]) fun _ _ _ _ _ _ us hl => match us, hl with | [_], _ => rfl
  have F6 := fun_mk (st := s_read_thing) l6 c6 k6
  have b6 := F6.binds (ps := ["names", "text"]) fun _ _ _ _ _ _ us hl => match us, hl with | [_, _], _ => rfl
  have F7 := fun_mk (st := s_read_content) l7 c7 k7
  have b7 := F7.binds (ps := ["names", "text"]) fun _ _ _ _ _ _ us hl => match us, hl with | [_, _], _ => rfl
  have F8 := fun_mk (st := s_read_goods) l8 c8 k8
  have b8 := F8.binds (ps := ["names", "text"]) fun _ _ _ _ _ _ us hl => match us, hl with | [_, _], _ => rfl
  have F9 := fun_mk (st := s_read_sold) l9 c9 k9
  have b9 := F9.binds (ps := ["names", "text"]) fun _ _ _ _ _ _ us hl => match us, hl with | [_, _], _ => rfl
  have F10 := fun_mk (st := s_read_tier) l10 c10 k10
  have b10 := F10.binds (ps := ["text"]) fun _ _ _ _ _ _ us hl => match us, hl with | [_], _ => rfl
  have F11 := fun_mk (st := s_read_many) l11 c11 k11
  have b11 := F11.binds (ps := ["names", "text"]) fun _ _ _ _ _ _ us hl => match us, hl with | [_, _], _ => rfl
  have F12 := fun_mk (st := s_read_add) l12 c12 k12
  have b12 := F12.binds (ps := ["names", "text"]) fun _ _ _ _ _ _ us hl => match us, hl with | [_, _], _ => rfl
  have F13 := fun_mk (st := s_read_offer) l13 c13 k13
  have b13 := F13.binds (ps := ["names", "text"]) fun _ _ _ _ _ _ us hl => match us, hl with | [_, _], _ => rfl
  have F14 := fun_mk (st := s_read_shop) l14 c14 k14
  have b14 := F14.binds (ps := ["names", "rows"]) fun _ _ _ _ _ _ us hl => match us, hl with | [_, _], _ => rfl
  have F15 := fun_mk (st := s_law_draws) l15 c15 k15
  have b15 := F15.binds (ps := ["_law_script", "_law_turn", "_law_many"]) fun _ _ _ _ _ _ us hl => match us, hl with | [_, _, _], _ => rfl
  have F16 := fun_mk (st := s_law_pop) l16 c16 k16
  have b16 := F16.binds (ps := ["_law_draws_here"]) fun _ _ _ _ _ _ us hl => match us, hl with | [_], _ => rfl
  have F17 := fun_mk (st := s_law_want) l17 c17 k17
  have b17 := F17.binds (ps := ["_law_draws_here", "_law_many"]) fun _ _ _ _ _ _ us hl => match us, hl with | [_, _], _ => rfl
  have F18 := fun_mk (st := s_law_cases) l18 c18 k18
  have b18 := F18.binds (ps := ["_law_want_here"]) fun _ _ _ _ _ _ us hl => match us, hl with | [_], _ => rfl
  have F19 := fun_mk (st := s_law_content) l19 c19 k19
  have b19 := F19.binds (ps := ["_law_draws_here", "_law_many"]) fun _ _ _ _ _ _ us hl => match us, hl with | [_, _], _ => rfl
  have F20 := fun_mk (st := s_law_price) l20 c20 k20
  have b20 := F20.binds (ps := ["_law_draws_here"]) fun _ _ _ _ _ _ us hl => match us, hl with | [_], _ => rfl
  have F21 := fun_mk (st := s_law_tiers) l21 c21 k21
  have b21 := F21.binds (ps := ["_law_draws_here"]) fun _ _ _ _ _ _ us hl => match us, hl with | [_], _ => rfl
  have F22 := fun_mk (st := s_law_shop) l22 c22 k22
  have b22 := F22.binds (ps := ["_law_draws_here", "_law_many", "_law_most"]) fun _ _ _ _ _ _ us hl => match us, hl with | [_, _, _], _ => rfl
  have F23 := fun_mk (st := s_law_names) l23 c23 k23
  have b23 := F23.binds (ps := ["_law_draws_here", "_law_many"]) fun _ _ _ _ _ _ us hl => match us, hl with | [_, _], _ => rfl
  have F24 := fun_mk (st := s_law_content_text) l24 c24 k24
  have b24 := F24.binds (ps := ["_law_names_here", "_law_content_here"]) fun _ _ _ _ _ _ us hl => match us, hl with | [_, _], _ => rfl
  have F25 := fun_mk (st := s_law_offer_text) l25 c25 k25
  have b25 := F25.binds (ps := ["_law_names_here", "_law_offer"]) fun _ _ _ _ _ _ us hl => match us, hl with | [_, _], _ => rfl
  have F26 := fun_mk (st := s_law_number_of) l26 c26 k26
  have b26 := F26.binds (ps := ["_law_text", "_law_most"]) fun _ _ _ _ _ _ us hl => match us, hl with | [_, _], _ => rfl
  have F27 := fun_mk (st := s_law_content_of) l27 c27 k27
  have b27 := F27.binds (ps := ["_law_names_here", "_law_text"]) fun _ _ _ _ _ _ us hl => match us, hl with | [_, _], _ => rfl
  have F28 := fun_mk (st := s_law_priced_of) l28 c28 k28
  have b28 := F28.binds (ps := ["_law_text"]) fun _ _ _ _ _ _ us hl => match us, hl with | [_], _ => rfl
  have F29 := fun_mk (st := s_law_pack_of) l29 c29 k29
  have b29 := F29.binds (ps := ["_law_names_here", "_law_text"]) fun _ _ _ _ _ _ us hl => match us, hl with | [_, _], _ => rfl
  have F30 := fun_mk (st := s_law_many_of) l30 c30 k30
  have b30 := F30.binds (ps := ["_law_names_here", "_law_text"]) fun _ _ _ _ _ _ us hl => match us, hl with | [_, _], _ => rfl
  have F31 := fun_mk (st := s_law_offer_of) l31 c31 k31
  have b31 := F31.binds (ps := ["_law_names_here", "_law_text"]) fun _ _ _ _ _ _ us hl => match us, hl with | [_, _], _ => rfl
  have F32 := fun_mk (st := s_law_sign_bent) l32 c32 k32
  have b32 := F32.binds (ps := ["_law_text", "_law_draws_here"]) fun _ _ _ _ _ _ us hl => match us, hl with | [_, _], _ => rfl
  have F33 := fun_mk (st := s_law_word_bent) l33 c33 k33
  have b33 := F33.binds (ps := ["_law_text", "_law_names_here", "_law_draws_here"]) fun _ _ _ _ _ _ us hl => match us, hl with | [_, _, _], _ => rfl
  have F34 := fun_mk (st := s_law_text_bent) l34 c34 k34
  have b34 := F34.binds (ps := ["_law_text", "_law_names_here", "_law_draws_here"]) fun _ _ _ _ _ _ us hl => match us, hl with | [_, _, _], _ => rfl
  have F35 := fun_mk (st := s_law_which) l35 c35 k35
  have b35 := F35.binds (ps := ["_law_e"]) fun _ _ _ _ _ _ us hl => match us, hl with | [_], _ => rfl
  have F36 := fun_mk (st := s_law_told) l36 c36 k36
  have b36 := F36.binds (ps := ["_law_names_here", "_law_rows", "_law_whole"]) fun _ _ _ _ _ _ us hl => match us, hl with | [_, _, _], _ => rfl
  have F37 := fun_mk (st := s_law_due) l37 c37 k37
  have b37 := F37.binds (ps := ["_law_names_here", "_law_rows", "_law_whole"]) fun _ _ _ _ _ _ us hl => match us, hl with | [_, _, _], _ => rfl
  have FI := fun_mk (st := s_ninit) xlI xcI xkI
  have bI := FI.binds (ps := ["self", "place"]) fun _ _ _ _ _ _ us hl => match us, hl with | [_, _], _ => rfl
  have X0 : Exs K mg C CP fI _ := ⟨PySem.W.mg_of X G xaC, PySem.W.mg_of X G xaP, ⟨⟨nmC, qC, NC, bsC, _, snC, subC, abC, colC, ddC, mC0, mC1, mC2, mC3, mC5, xL, (show PySem.HandSPX.refsVE [.type "ValueError", .type "Exception", .type "BaseException", .type "object"] = true by decide +kernel)⟩, xsa, xex, xty, xkC⟩, xrP, xgP, xvP, xnp, xiC, xtI, FI, bI, ⟨xhg, xhk, xex, xhd, xha, xhn, xht, xhm⟩, ⟨xhg, xhk, xex, xhd⟩⟩
  have FT := fun_mk (st := s_xinit) ylI ycI ykI
  have bT := FT.binds (ps := ["self", "row"]) fun _ _ _ _ _ _ us hl => match us, hl with | [_, _], _ => rfl
  have Z0 : ExText K mg cNoText fT _ := ⟨PySem.W.mg_of X G xaNoText, ⟨⟨nmT, qT, NT, bsT, _, snT, subT, abT, colT, ddT, mT0, mT1, mT2, mT3, mT5, yL, (show PySem.HandSPX.refsVE [.type "ValueError", .type "Exception", .type "BaseException", .type "object"] = true by decide +kernel)⟩, ysa, yex, yty, ykC⟩, ynr, yiC, ytI, FT, bT, ⟨yhg, yhk, yex, yhd⟩⟩
  have Y0 : Five K mg cNoLine C cNoPlace cNoText cNoThings CP := ⟨PySem.W.mg_of X G xaNoLine, PySem.W.mg_of X G xaC, PySem.W.mg_of X G xaNoPlace, PySem.W.mg_of X G xaNoText, PySem.W.mg_of X G xaNoThings, PySem.W.mg_of X G xaP, PySem.W.mg_none_of X G xv⟩
  have O3 : OneOf K cNoLine C cNoPlace cNoText cNoThings CP cNoText 3 := ⟨by decide, ⟨yhg, yhk, yex, yhd, qca, xhn, xht, qcm⟩, qf_NoLine, qf_C, qf_NoPlace, qf_NoText, qf_NoThings, qkp, qkv, qem⟩
  have M : Names mg := ⟨PySem.W.mg_none_of X G z1, PySem.W.mg_none_of X G z2, PySem.W.mg_none_of X G z3, PySem.W.mg_none_of X G z4, PySem.W.mg_none_of X G z5, PySem.W.mg_none_of X G z6, PySem.W.mg_none_of X G z7, PySem.W.mg_none_of X G z8, PySem.W.mg_none_of X G z9, PySem.W.mg_none_of X G z10, PySem.W.mg_none_of X G z11, PySem.W.mg_none_of X G z12, PySem.W.mg_none_of X G z13, PySem.W.mg_none_of X G z14, PySem.W.mg_none_of X G z15, PySem.W.mg_none_of X G z16, PySem.W.mg_none_of X G z17, PySem.W.mg_none_of X G z18, PySem.W.mg_none_of X G z19, ⟨_, PySem.W.mg_of X G q1⟩, ⟨_, PySem.W.mg_of X G q2⟩, ⟨_, PySem.W.mg_of X G q3⟩, ⟨_, PySem.W.mg_of X G q4⟩, ⟨_, PySem.W.mg_of X G q5⟩, ⟨_, PySem.W.mg_of X G q6⟩⟩
  obtain ⟨hd3, ht3⟩ := tabs "made_of" cT3 PT3 rc3 (tabIn_of a3 l3 rfl lc3 hv3)
  refine ⟨PySem.W.fnOf "law" "law" (defArgs s_law) (defBody s_law) (defScope s_law) .none kV1 dc1 pm1 an1 cd1 ct1, [(cT3, PT3)], sp_law K PT3, ?hT, ?nT, ?hC, fun s v => .of_eq rfl, fun H a ns hl hT hS => ⟨a, ns, rfl, hS, hl, ⟨#[], hT (cT3, PT3) List.mem_cons_self, True.intro⟩, fun _ => rfl⟩, fun base _ _ hB => ?_⟩
  case hT =>
    exact fun p hp => by
      rcases List.mem_cons.mp hp with rfl | hp
      · exact ht3
      cases hp
  case nT =>
    exact fun p hp => by
      rcases List.mem_cons.mp hp with rfl | hp
      · exact Option.isNone_iff_eq_none.mp nt3
      cases hp
  case hC =>
    exact fun p hp => by
      rcases List.mem_cons.mp hp with rfl | hp
      · exact hd3
      cases hp
  have T3 := hB (cT3, PT3) List.mem_cons_self
  exact ok_law M ⟨F1, PySem.W.mg_of X G a1, b1⟩ ⟨F2, PySem.W.mg_of X G a2, b2⟩ ⟨F3, PySem.W.mg_of X G a3, b3⟩ ⟨F4, PySem.W.mg_of X G a4, b4⟩ ⟨F5, PySem.W.mg_of X G a5, b5⟩ ⟨F6, PySem.W.mg_of X G a6, b6⟩ ⟨F7, PySem.W.mg_of X G a7, b7⟩ ⟨F8, PySem.W.mg_of X G a8, b8⟩ ⟨F9, PySem.W.mg_of X G a9, b9⟩ ⟨F10, PySem.W.mg_of X G a10, b10⟩ ⟨F11, PySem.W.mg_of X G a11, b11⟩ ⟨F12, PySem.W.mg_of X G a12, b12⟩ ⟨F13, PySem.W.mg_of X G a13, b13⟩ ⟨F14, PySem.W.mg_of X G a14, b14⟩ ⟨F15, PySem.W.mg_of X G a15, b15⟩ ⟨F16, PySem.W.mg_of X G a16, b16⟩ ⟨F17, PySem.W.mg_of X G a17, b17⟩ ⟨F18, PySem.W.mg_of X G a18, b18⟩ ⟨F19, PySem.W.mg_of X G a19, b19⟩ ⟨F20, PySem.W.mg_of X G a20, b20⟩ ⟨F21, PySem.W.mg_of X G a21, b21⟩ ⟨F22, PySem.W.mg_of X G a22, b22⟩ ⟨F23, PySem.W.mg_of X G a23, b23⟩ ⟨F24, PySem.W.mg_of X G a24, b24⟩ ⟨F25, PySem.W.mg_of X G a25, b25⟩ ⟨F26, PySem.W.mg_of X G a26, b26⟩ ⟨F27, PySem.W.mg_of X G a27, b27⟩ ⟨F28, PySem.W.mg_of X G a28, b28⟩ ⟨F29, PySem.W.mg_of X G a29, b29⟩ ⟨F30, PySem.W.mg_of X G a30, b30⟩ ⟨F31, PySem.W.mg_of X G a31, b31⟩ ⟨F32, PySem.W.mg_of X G a32, b32⟩ ⟨F33, PySem.W.mg_of X G a33, b33⟩ ⟨F34, PySem.W.mg_of X G a34, b34⟩ ⟨F35, PySem.W.mg_of X G a35, b35⟩ ⟨F36, PySem.W.mg_of X G a36, b36⟩ ⟨F37, PySem.W.mg_of X G a37, b37⟩ rfl ⟨T3.code, T3.bm, T3.gP⟩ X0 Z0 xtt Y0 O3
end Pk
open PySem PySem.W PyProof.Rows
set_option maxHeartbeats 0 in
theorem PySem.Challenge.cw_packwants_k38_texts_refused_holds : PySem.Challenge.rw_packwants_k38_texts_refused.Holds := by
  w_on; o_law; k_head; (case hw => w_witness2)
  k_fill
  refine Pk.walk_ofH (l := PySem.Challenge.rw_packwants_k38_texts_refused) (n := 63) (k := 12) (x := "_law_script") rfl (by decide) rfl ⟨rfl, by decide, by decide⟩ (fun w h Y => PySem.W.kIn_of Y) ?F
  case F =>
    intro w mg fa h KX G hmg tabs
    refine' Pk.all_mk KX G hmg tabs ?xaC ?xaP ?xL ?xsa ?xex ?xty ?xkC ?xrP ?xgP ?xvP ?xnp ?xiC ?xtI ?xlI ?xcI ?xkI ?xhg ?xhk ?xhd ?xha ?xhn ?xht ?xhm ?xv ?xaNoLine ?xaNoPlace ?xaNoText ?xaNoThings ?xtt ?qem ?qkp ?qkv ?qca ?qcm ?qf_NoLine ?qf_C ?qf_NoPlace ?qf_NoText ?qf_NoThings ?yL ?ysa ?yex ?yty ?ykC ?ynr ?yiC ?ytI ?ylI ?ycI ?ykI ?yhg ?yhk ?yhd ?a1 ?l1 ?c1 ?k1 ?a2 ?l2 ?c2 ?k2 ?a3 ?l3 ?c3 ?k3 ?a4 ?l4 ?c4 ?k4 ?a5 ?l5 ?c5 ?k5 ?a6 ?l6 ?c6 ?k6 ?a7 ?l7 ?c7 ?k7 ?a8 ?l8 ?c8 ?k8 ?a9 ?l9 ?c9 ?k9 ?a10 ?l10 ?c10 ?k10 ?a11 ?l11 ?c11 ?k11 ?a12 ?l12 ?c12 ?k12 ?a13 ?l13 ?c13 ?k13 ?a14 ?l14 ?c14 ?k14 ?a15 ?l15 ?c15 ?k15 ?a16 ?l16 ?c16 ?k16 ?a17 ?l17 ?c17 ?k17 ?a18 ?l18 ?c18 ?k18 ?a19 ?l19 ?c19 ?k19 ?a20 ?l20 ?c20 ?k20 ?a21 ?l21 ?c21 ?k21 ?a22 ?l22 ?c22 ?k22 ?a23 ?l23 ?c23 ?k23 ?a24 ?l24 ?c24 ?k24 ?a25 ?l25 ?c25 ?k25 ?a26 ?l26 ?c26 ?k26 ?a27 ?l27 ?c27 ?k27 ?a28 ?l28 ?c28 ?k28 ?a29 ?l29 ?c29 ?k29 ?a30 ?l30 ?c30 ?k30 ?a31 ?l31 ?c31 ?k31 ?a32 ?l32 ?c32 ?k32 ?a33 ?l33 ?c33 ?k33 ?a34 ?l34 ?c34 ?k34 ?a35 ?l35 ?c35 ?k35 ?a36 ?l36 ?c36 ?k36 ?a37 ?l37 ?c37 ?k37 ?lc3 ?hv3 ?nt3 ?rc3 ?z1 ?z2 ?z3 ?z4 ?z5 ?z6 ?z7 ?z8 ?z9 ?z10 ?z11 ?z12 ?z13 ?z14 ?z15 ?z16 ?z17 ?z18 ?z19 ?q1 ?q2 ?q3 ?q4 ?q5 ?q6
    (case xaC => first | k_is | k_exc | rfl); (case xaP => first | k_is | k_exc | rfl); (case xL => first | k_is | k_exc | rfl); (case xsa => first | k_is | k_exc | rfl); (case xex => first | k_is | k_exc | rfl); (case xty => first | k_is | k_exc | rfl); (case xkC => first | k_is | k_exc | rfl); (case xrP => first | k_is | k_exc | rfl); (case xgP => first | k_is | k_exc | rfl); (case xvP => first | k_is | k_exc | rfl); (case xnp => first | k_is | k_exc | rfl); (case xiC => first | k_is | k_exc | rfl); (case xtI => first | k_is | k_exc | rfl); (case xlI => first | k_is | k_exc | rfl); (case xcI => first | k_is | k_exc | rfl); (case xkI => first | k_is | k_exc | rfl); (case xhg => first | k_is | k_exc | rfl); (case xhk => first | k_is | k_exc | rfl); (case xhd => first | k_is | k_exc | rfl); (case xha => first | k_is | k_exc | rfl); (case xhn => first | k_is | k_exc | rfl); (case xht => first | k_is | k_exc | rfl); (case xhm => first | k_is | k_exc | rfl); (case xv => first | k_is | k_exc | rfl); (case xaNoLine => first | k_is | k_exc | rfl); (case xaNoPlace => first | k_is | k_exc | rfl); (case xaNoText => first | k_is | k_exc | rfl); (case xaNoThings => first | k_is | k_exc | rfl); (case xtt => first | k_is | k_exc | rfl); (case qem => first | k_is | k_exc | rfl); (case qkp => first | k_is | k_exc | rfl); (case qkv => first | k_is | k_exc | rfl); (case qca => first | k_is | k_exc | rfl); (case qcm => first | k_is | k_exc | rfl); (case qf_NoLine => first | k_is | k_exc | rfl); (case qf_C => first | k_is | k_exc | rfl); (case qf_NoPlace => first | k_is | k_exc | rfl); (case qf_NoText => first | k_is | k_exc | rfl); (case qf_NoThings => first | k_is | k_exc | rfl); (case yL => first | k_is | k_exc | rfl); (case ysa => first | k_is | k_exc | rfl); (case yex => first | k_is | k_exc | rfl); (case yty => first | k_is | k_exc | rfl); (case ykC => first | k_is | k_exc | rfl); (case ynr => first | k_is | k_exc | rfl); (case yiC => first | k_is | k_exc | rfl); (case ytI => first | k_is | k_exc | rfl); (case ylI => first | k_is | k_exc | rfl); (case ycI => first | k_is | k_exc | rfl); (case ykI => first | k_is | k_exc | rfl); (case yhg => first | k_is | k_exc | rfl); (case yhk => first | k_is | k_exc | rfl); (case yhd => first | k_is | k_exc | rfl)
    (case a1 => k_is); (case l1 => k_is); (case c1 => k_is); (case k1 => k_is); (case a2 => k_is); (case l2 => k_is); (case c2 => k_is); (case k2 => k_is); (case a3 => k_is); (case l3 => k_is); (case c3 => k_is); (case k3 => k_is); (case a4 => k_is); (case l4 => k_is); (case c4 => k_is); (case k4 => k_is); (case a5 => k_is); (case l5 => k_is); (case c5 => k_is); (case k5 => k_is); (case a6 => k_is); (case l6 => k_is); (case c6 => k_is); (case k6 => k_is); (case a7 => k_is); (case l7 => k_is); (case c7 => k_is); (case k7 => k_is); (case a8 => k_is); (case l8 => k_is); (case c8 => k_is); (case k8 => k_is); (case a9 => k_is); (case l9 => k_is); (case c9 => k_is); (case k9 => k_is); (case a10 => k_is); (case l10 => k_is); (case c10 => k_is); (case k10 => k_is); (case a11 => k_is); (case l11 => k_is); (case c11 => k_is); (case k11 => k_is); (case a12 => k_is); (case l12 => k_is); (case c12 => k_is); (case k12 => k_is); (case a13 => k_is); (case l13 => k_is); (case c13 => k_is); (case k13 => k_is); (case a14 => k_is); (case l14 => k_is); (case c14 => k_is); (case k14 => k_is); (case a15 => k_is); (case l15 => k_is); (case c15 => k_is); (case k15 => k_is); (case a16 => k_is); (case l16 => k_is); (case c16 => k_is); (case k16 => k_is); (case a17 => k_is); (case l17 => k_is); (case c17 => k_is); (case k17 => k_is); (case a18 => k_is); (case l18 => k_is); (case c18 => k_is); (case k18 => k_is); (case a19 => k_is); (case l19 => k_is); (case c19 => k_is); (case k19 => k_is); (case a20 => k_is); (case l20 => k_is); (case c20 => k_is); (case k20 => k_is); (case a21 => k_is); (case l21 => k_is); (case c21 => k_is); (case k21 => k_is); (case a22 => k_is); (case l22 => k_is); (case c22 => k_is); (case k22 => k_is); (case a23 => k_is); (case l23 => k_is); (case c23 => k_is); (case k23 => k_is); (case a24 => k_is); (case l24 => k_is); (case c24 => k_is); (case k24 => k_is); (case a25 => k_is); (case l25 => k_is); (case c25 => k_is); (case k25 => k_is); (case a26 => k_is); (case l26 => k_is); (case c26 => k_is); (case k26 => k_is); (case a27 => k_is); (case l27 => k_is); (case c27 => k_is); (case k27 => k_is); (case a28 => k_is); (case l28 => k_is); (case c28 => k_is); (case k28 => k_is); (case a29 => k_is); (case l29 => k_is); (case c29 => k_is); (case k29 => k_is); (case a30 => k_is); (case l30 => k_is); (case c30 => k_is); (case k30 => k_is); (case a31 => k_is); (case l31 => k_is); (case c31 => k_is); (case k31 => k_is); (case a32 => k_is); (case l32 => k_is); (case c32 => k_is); (case k32 => k_is); (case a33 => k_is); (case l33 => k_is); (case c33 => k_is); (case k33 => k_is); (case a34 => k_is); (case l34 => k_is); (case c34 => k_is); (case k34 => k_is); (case a35 => k_is); (case l35 => k_is); (case c35 => k_is); (case k35 => k_is); (case a36 => k_is); (case l36 => k_is); (case c36 => k_is); (case k36 => k_is); (case a37 => k_is); (case l37 => k_is); (case c37 => k_is); (case k37 => k_is); (case lc3 => k_is); (case hv3 => rfl); (case nt3 => rfl); (case rc3 => rfl); (case z1 => k_is); (case z2 => k_is); (case z3 => k_is); (case z4 => k_is); (case z5 => k_is); (case z6 => k_is); (case z7 => k_is); (case z8 => k_is); (case z9 => k_is); (case z10 => k_is); (case z11 => k_is); (case z12 => k_is); (case z13 => k_is); (case z14 => k_is); (case z15 => k_is); (case z16 => k_is); (case z17 => k_is); (case z18 => k_is); (case z19 => k_is); (case q1 => k_is); (case q2 => k_is); (case q3 => k_is); (case q4 => k_is); (case q5 => k_is); (case q6 => k_is)
